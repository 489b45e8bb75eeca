/- Proved here: a part of what Doors keeps (Cn5). -/
import Derived.Stop.RegionWithIn
import Derived.Test.YtpobhljcainmdaaGreatJ01
import Derived.Test.YtpobhljcainmdaaGreatJ07
import Derived.Test.YtpobhljcainmdaaGreatJ08
set_option maxRecDepth 100000
set_option maxHeartbeats 8000000
set_option linter.all false
namespace Go.Proofs.YtpobhljcainmdaaGreat
section
open Go.Proofs.Tryz
open Go.RowKit Go.Shelf
attribute [local go_sem] Oper.semAt_some
attribute [local go_sem] au aj
structure aU(W:World)(c rb mb ch:Nat)(sz cl qu mx qn rt bu wk ou de:Int)(k:Cl):Prop where
 box:∃v,bC W c k.no k.wt sz cl qu mx qn rt bu wk ou rb k.aO v k.tok de ch/\cD W v k.out
 rd:∃rp,cW W rb mb sz mx rp []/\(k.ph≠4->rp=k.ph)
 chan:W.heap[ch]? =some (.chan 0 #[] (decide (k.ph=4)) 0 0 false)
abbrev Aside(rb mb b:Nat)(x:Nat):Prop:=x=rb\/x=mb\/x=b\/x=b+1\/x=b+2\/x=b+3
def TE(c rb mb ch b B0:Nat)(sz cl qu mx qn rt bu wk ou de:Int)(k:Cl)(pre:List (bg×Int))(W:World):Prop:=
 ∃k1 v,Goes sz mx ou k pre k1/\k1.hears ou/\bC W c k.no k.wt sz cl qu mx qn rt bu wk ou rb k1.aO v k.tok de ch/\cD W v k1.out/\(∀g,v.ownBlock=some g->¬Aside rb mb b g)/\
  W.heap[ch]? =some (.chan 0 #[] false 0 0 false)/\W.heap[B0]? =some (.cells #[.pointer (some ⟨c,0,none⟩)] 119 (0,0))
def Wx(c rb mb ch b:Nat)(sz cl qu mx qn rt bu wk ou de:Int)(k:Cl)(pre:List (bg×Int))(W:World):Prop:=
 ∃k2 v,(∀f,pre.length<=f->Cl.read sz mx ou f k=k2)/\k2.no=k.no/\k2.wt=k.wt/\k2.tok=k.tok/\bC W c k.no k.wt sz cl qu mx qn rt bu wk ou rb k2.aO v k.tok de ch/\cD W v k2.out/\(∀g,v.ownBlock=some g->¬Aside rb mb b g)/\
  W.heap[ch]? =some (.chan 0 #[] (decide (k2.ph=4)) 0 0 false)/\(k2.ph≠4->k2.ph=((⟨k.ph,[],0⟩:St).run pre).ph)/\((⟨k.ph,[],0⟩:St).run pre).used=[]
section
variable {c rb mb ch b B0:Nat} {sz cl qu mx qn rt bu wk ou de:Int} {k:Cl}
theorem Ci{W W':World}{v:Value}{o:ByteArray}{row:Option Nat}(h:cD W v o)(hg:W.grownBy W' row)(hr:∀g,v.ownBlock=some g->row≠some g):cD W' v o:=by
 refine⟨h.1,?_⟩;rcases h.2 with h|⟨g,cap,cur,rfl,h2,h3,h4⟩
 ·exact .inl h
 ·exact .inr ⟨g,cap,cur,rfl,h2,(hg.block g (Array.getElem?_eq_some_iff.1 h3).1 (fun e=>hr g rfl e.symm)).trans h3,h4⟩
theorem dF{W W':World}{row:Option Nat}{i:Nat}{o:Obj}(h:W.heap[i]? =some o)(hg:W.grownBy W' row)(hr:row≠some i):W'.heap[i]? =some o:=
 (hg.block i (Array.getElem?_eq_some_iff.1 h).1 (fun e=>hr e.symm)).trans h
theorem TE.bears(hc:¬Aside rb mb b c)(hh:¬Aside rb mb b ch)(hB:¬Aside rb mb b B0):Bears (fun r=>TD rb mb (b+1) r\/r=b+2+1) (TE c rb mb ch b B0 sz cl qu mx qn rt bu wk ou de k):=by
 rintro pre W W' row ⟨k1,v,h1,h2,h3,h4,h5,h6,h7⟩ hg hr
 have hrow:∀i,¬Aside rb mb b i->row≠some i:=fun i hi e=>hi (by
  rcases hr i e with(h|h|h)|h
  ·exact .inl h
  ·exact .inr (.inl h)
  ·exact .inr (.inr (.inr (.inl h)))
  ·exact .inr (.inr (.inr (.inr (.inr h)))))
 exact⟨k1,v,h1,h2,dF h3 hg (hrow c hc),Ci h4 hg (fun g e=>hrow g (h5 g e)),h5,dF h6 hg (hrow ch hh),dF h7 hg (hrow B0 hB)⟩
theorem Wx.bears(hc:¬Aside rb mb b c)(hh:¬Aside rb mb b ch):Bears (fun r=>TD rb mb (b+1) r\/r=b+2+1) (Wx c rb mb ch b sz cl qu mx qn rt bu wk ou de k):=by
 rintro pre W W' row ⟨k1,v,h1,h2,h2',Yu,h3,h4,h5,h6,h7,h8⟩ hg hr
 have hrow:∀i,¬Aside rb mb b i->row≠some i:=fun i hi e=>hi (by
  rcases hr i e with(h|h|h)|h
  ·exact .inl h
  ·exact .inr (.inl h)
  ·exact .inr (.inr (.inr (.inl h)))
  ·exact .inr (.inr (.inr (.inr (.inr h)))))
 exact⟨k1,v,h1,h2,h2',Yu,dF h3 hg (hrow c hc),Ci h4 hg (fun g e=>hrow g (h5 g e)),h5,dF h6 hg (hrow ch hh),h7,h8⟩
end
abbrev TF(c rb B0:Nat)(s:ByteArray)(W:World):Prop:=W.cell? ⟨c,11,none⟩=some (.pointer (some ⟨rb,0,none⟩))/\W.cell? ⟨c,12,none⟩=some (.string s)/\W.cell? ⟨B0,0,none⟩=some (.pointer (some ⟨c,0,none⟩))
theorem TF.Rw{c rb B0:Nat}{s:ByteArray}{W:World}{x y:Obj}(h:TF c rb B0 s W):TF c rb B0 s ((W.alloc x).alloc y):=by have hb:Below W.heap.size W ((W.alloc x).alloc y):=((Below.refl _ W).alloc (Nat.le_refl _) _).alloc (by simp) _;exact⟨aP hb h.1,aP hb h.2.1,aP hb h.2.2⟩
def ReA(c rb b B0:Nat)(s:ByteArray)(x:bg×Int)(bm:Nat):Act:=
 {tmps:=#[.pointer (some ⟨c,0,none⟩),.pointer (some ⟨B0,0,none⟩),.pointer (some ⟨bm,0,none⟩),.int .i64 x.2,.pointer (some ⟨c,0,none⟩),.bool true,.bool false,.pointer (some ⟨c,0,none⟩),.pointer (some ⟨c,0,none⟩),.pointer (some ⟨c,11,none⟩),.pointer (some ⟨rb,0,none⟩),
   .pointer (some ⟨c,0,none⟩),.pointer (some ⟨c,0,none⟩),.pointer (some ⟨c,12,none⟩),.string s,.func (.func 189) #[] #[.pointer (some ⟨b,0,none⟩),.pointer (some ⟨b+1,0,none⟩)],
   .agg (aL x.1.wh x.1.nm x.1.kd x.1.fl x.1.ck x.1.of x.1.ln x.1.dt x.1.er),.int .i64 x.2,undef,undef,undef,undef,undef,undef,undef,undef,undef,undef,undef,undef,undef,undef,undef],defers:=[]}
def ReB(c rb b B0:Nat)(s t:ByteArray)(m:bg)(K:Nat)(bm:Nat):Act:=
 {tmps:=#[.pointer (some ⟨c,0,none⟩),.pointer (some ⟨B0,0,none⟩),.pointer (some ⟨bm,0,none⟩),.int .i64 K,.pointer (some ⟨c,0,none⟩),.bool true,.bool false,.pointer (some ⟨c,0,none⟩),.pointer (some ⟨c,0,none⟩),.pointer (some ⟨c,11,none⟩),.pointer (some ⟨rb,0,none⟩),
   .pointer (some ⟨c,0,none⟩),.pointer (some ⟨c,0,none⟩),.pointer (some ⟨c,12,none⟩),.string s,.func (.func 189) #[] #[.pointer (some ⟨b,0,none⟩),.pointer (some ⟨b+1,0,none⟩)],
   .agg (aL m.wh m.nm m.kd m.fl m.ck m.of m.ln m.dt m.er),.int .i64 K,.pointer (some ⟨c,0,none⟩),.pointer (some ⟨c,0,none⟩),.pointer (some ⟨c,0,none⟩),.pointer (some ⟨c,12,none⟩),.string t,.int .i64 K,.string (t.extract K t.size),.pointer (some ⟨c,0,none⟩),.pointer (some ⟨c,12,none⟩),undef,undef,undef,undef,undef,undef],defers:=[]}
def Ww(c rb b B0:Nat)(s:ByteArray)(x:bg×Int)(a:Act)(W:World):Prop:=∃bm,b+4<=bm/\W.heap[bm]? =some (.cells (aL x.1.wh x.1.nm x.1.kd x.1.fl x.1.ck x.1.of x.1.ln x.1.dt x.1.er) 132 (0,0))/\a=ReA c rb b B0 s x bm
theorem Ww.bears{c rb mb b B0:Nat}{s:ByteArray}(h1:rb<b)(h2:mb<b)(x:bg×Int):Bears (fun r=>TD rb mb (b+1) r\/r=b+2+1) (Ww c rb b B0 s x):=by rintro a W W' row ⟨bm,g1,g2,g3⟩ hg hr;refine⟨bm,g1,dF g2 hg (fun e=>?_),g3⟩;rcases hr _ e with(h|h|h)|h<;>omega
abbrev Cd(w1:World)(rb:Nat)(s:ByteArray):World:=((w1.alloc (.cells #[.pointer (some ⟨rb,0,none⟩)] 164)).alloc (.cells #[.string s] 9)).drew
theorem LK(w1:World)(rb:Nat)(s:ByteArray):(Cd w1 rb s).heap.size=w1.heap.size+2/\(Cd w1 rb s).heap[w1.heap.size]? =some (.cells #[.pointer (some ⟨rb,0,none⟩)] 164 (0,0))/\(Cd w1 rb s).heap[w1.heap.size+1]? =some (.cells #[.string s] 9 (0,0))/\Below w1.heap.size w1 (Cd w1 rb s):=by
 refine⟨by simp,?_,?_,(((Below.refl _ w1).alloc (Nat.le_refl _) _).alloc (by simp) _).drew⟩
 ·exact(Below.heap_alloc _ _ _ (by simp)).trans (heap_alloc_new w1 _)
 ·have:=heap_alloc_new (w1.alloc (.cells #[.pointer (some ⟨rb,0,none⟩)] 164)) (.cells #[.string s] 9);rw[World.size_alloc]at this;exact this
theorem Li{rb mb b:Nat}{X:Nat->Prop}{W W':World}(hT:aF X W W')(hX:∀i,X i->¬Aside rb mb b i)(h1:rb<W.heap.size)(h2:mb<W.heap.size)(h3:b+4<=W.heap.size):TK (b+2) W W'/\Qi rb mb b (b+1) W W':=by have key:∀i,i<W.heap.size->Aside rb mb b i->W'.heap[i]? =W.heap[i]? :=fun i hi ha=>hT.block i hi fun hx=>hX i hx ha;exact⟨⟨key _ (by omega) (by simp[Aside]),key _ (by omega) (by simp[Aside])⟩,key _ h1 (by simp[Aside]),key _ h2 (by simp[Aside]),key _ (by omega) (by simp[Aside]),key _ (by omega) (by simp[Aside])⟩
theorem aU.off{W W':World}{c rb mb ch N:Nat}{sz cl qu mx qn rt bu wk ou de:Int}{k:Cl}{x:Option (List Deferred)}(h:aU W c rb mb ch sz cl qu mx qn rt bu wk ou de k)(hN:W.heap[N]? =some (.deferred x))(hk:∀i,i≠N->W'.heap[i]? =W.heap[i]?):aU W' c rb mb ch sz cl qu mx qn rt bu wk ou de k:=by
 have key:∀i o,W.heap[i]? =some o->o≠Obj.deferred x->W'.heap[i]? =some o:=fun i o ho hne=>(hk i (fun e=>hne (by subst e;exact Option.some.inj (ho.symm.trans hN)))).trans ho;obtain⟨v,h1,h2⟩:=h.box;obtain⟨rp,h3,h4⟩:=h.rd;refine⟨⟨v,key _ _ h1 (by simp),h2.1,?_⟩,⟨rp,⟨key _ _ h3.box (by simp),?_⟩,h4⟩,key _ _ h.chan (by simp)⟩
 ·rcases h2.2 with h|⟨g,cap,cur,e1,e2,e3,e4⟩
  ·exact .inl h
  ·exact .inr ⟨g,cap,cur,e1,e2,key _ _ e3 (by simp),e4⟩
 ·obtain⟨es,ck,e1,e2⟩:=h3.uses;exact⟨es,ck,key _ _ e1 (by simp),e2⟩
theorem aJ{W:World}{i j:Nat}{o o':Obj}(h:W.heap[i]? =some o)(h':W.heap[j]? =some o')(hne:o≠o'):i≠j:=fun e=>hne (by subst e;exact Option.some.inj (h.symm.trans h'))
theorem Gj{W:World}{c i T:Nat}{x:Array Value}{u v:Value}{o:ByteArray}(h:cD W v o)(hc:W.heap[c]? =some (.cells x T (0,0)))(hT:T≠5):cD (W.setCell ⟨c,i,none⟩ u) v o:=by
 refine⟨h.1,?_⟩;rcases h.2 with h|⟨g,cap,cur,e1,e2,e3,e4⟩
 ·exact .inl h
 ·exact .inr ⟨g,cap,cur,e1,e2,aS e3 (aJ e3 hc (by simp;intro _ e;exact absurd e.symm hT)) i u,e4⟩
theorem Ba{sz mx:Int}{m:bg}(h:m.nm.size<=65535):(answer sz mx m).size<=65540:=by
 unfold answer;split
 ·split<;>exact(by decide:(1:Nat)<=65540)
 ·split
  ·split
   ·rw[ByteArray.size_append,ByteArray.size_append];exact(by decide:1+2+2<=65540)
   ·split
    ·exact(by decide:(1:Nat)<=65540)
    ·rw[ByteArray.size_append];show 1+m.nm.size<=65540;omega
  ·exact(by decide:(0:Nat)<=65540)
theorem Ey{W:World}{v:Value}{o:ByteArray}{i:Nat}{x:Obj}(h:cD W v o)(hi:W.heap[i]? =some x)(hx:∀cur,x≠.cells cur 5 (0,0)):some i≠v.ownBlock:=fun e=>by
 rcases h.2 with⟨rfl,_⟩|⟨g,cap,cur,rfl,_,h3,_⟩
 ·cases e
 ·cases e;exact hx cur (Option.some.inj (hi.symm.trans h3))
theorem aN{X:Nat->Prop}{W W':World}{i:Nat}{x:Obj}(h:aF X W W')(hi:W.heap[i]? =some x)(hx:¬X i):W'.heap[i]? =some x:=(h.block i (Array.getElem?_eq_some_iff.1 hi).1 hx).trans hi
theorem AY{ph:Int}{m:bg}(h:ph<=2)(hm:m.wh=1\/m.wh=2):after ph m<=2:=by
 unfold after
 repeat' split
 all_goals omega
structure Qn(W:World)(c rb mb ch:Nat)(sz cl qu mx qn rt bu wk ou de:Int)(k:Cl):Prop where
 at_:aU W c rb mb ch sz cl qu mx qn rt bu wk ou de k
 ph:0<=k.ph/\k.ph<=2
 jU:fT k.aO
 aO:k.aO.size<=1048576
 out:k.out.size<=1048576
 sz:0<=sz/\sz<=65535
 mx:0<=mx/\mx<=65535
 qu:1<=qu
 ou:ou<=65535
theorem Bh(c rb mb ch:Nat)(sz cl qu mx qn rt bu wk ou de:Int)(k:Cl)(w:World)(h:Qn w c rb mb ch sz cl qu mx qn rt bu wk ou de k):
  CallsIn Fence.wide 3 prog 100 #[.pointer (some ⟨c,0,none⟩)] w fun e w'=>e=.returned (.tuple #[])/\aU w' c rb mb ch sz cl qu mx qn rt bu wk ou de (Cl.read sz mx ou (k.aO.size+1) k):=by
 obtain⟨v,hB,hO⟩:=h.at_.box;obtain⟨rp,hR,Zw⟩:=h.at_.rd;have Vl:k.ph≠4:=by have:=h.ph;omega
 obtain rfl:=Zw Vl;have hC:=h.at_.chan;rw[decide_eq_false Vl]at hC;obtain⟨va,vc,rfl⟩:=fG hO;have hM:Jp c ch va k.out.size vc qu ou w:=⟨aa hB rfl,aa hB rfl,aa hB rfl,aa hB rfl,aa hB rfl,aa hB rfl,hC⟩;have xN:Below w.heap.size w (w.alloc (.cells #[.pointer (some ⟨c,0,none⟩)] 119)):=(Below.refl _ w).alloc (Nat.le_refl _) _;cases hh:decide ((k.out.size:Int)+6<=ou)with
 |false=>
  have HM:Hid (Jp c ch va k.out.size vc qu ou (w.alloc (.cells #[.pointer (some ⟨c,0,none⟩)] 119))):=Jp.later hM xN
  have HA:Hid (∀W,Below w.heap.size w W->aU W c rb mb ch sz cl qu mx qn rt bu wk ou de (Cl.read sz mx ou (k.aO.size+1) k)):=fun W hW=>by rw[rm (fun hx=>by have:=of_decide_eq_false hh;exact this hx.2)];exact⟨⟨_,aM hW hB,gZ hW hO⟩,⟨_,hR.later hW,fun _=>rfl⟩,by rw[decide_eq_false Vl];exact aM hW hC⟩
  have HB:Hid (Below w.heap.size w (w.alloc (.cells #[.pointer (some ⟨c,0,none⟩)] 119))):=xN;have KY:=h.out;have Ht:=h.qu;clear hB hO hR hC hM xN h;refine callsIn_of_wp_marks func100 rfl trivial ?_ rfl;simp only[ntmps100,List.size_toArray,List.length_cons,List.length_nil,Nat.reduceAdd,Nat.reduceSub,Array.replicate_succ,Array.replicate_zero,List.push_toArray,List.append_toArray,List.nil_append,List.cons_append]
  gi_wp2_with (first|(refine⟨trivial,?_⟩;gi_at_call 151;refine(callsIn_wide.2 (lg c ch va k.out.size vc qu ou _ (by omega) Ht HM.out)).mono ?_;rw[hh];rintro e w1 ⟨rfl,bz⟩))
  exact⟨.tuple #[],by simp[results,results100],rfl,HA.out _ (HB.out.trans (bz.mono (by simp)))⟩
 |true=>
  have nw:k.hears ou:=⟨h.ph.2,of_decide_eq_true hh⟩;have HM:Hid (Jp c ch va k.out.size vc qu ou (w.alloc (.cells #[.pointer (some ⟨c,0,none⟩)] 119))):=Jp.later hM xN
  have HA:Hid (∀W,Below w.heap.size w W->bC W c k.no k.wt sz cl qu mx qn rt bu wk ou rb k.aO (.slice va k.out.size vc) k.tok de ch/\cD W (.slice va k.out.size vc) k.out/\cW W rb mb sz mx k.ph []/\W.heap[ch]? =some (.chan 0 #[] false 0 0 false)):=fun W hW=>
   ⟨aM hW hB,gZ hW hO,hR.later hW,aM hW hC⟩
  have HB:Hid (Below w.heap.size w (w.alloc (.cells #[.pointer (some ⟨c,0,none⟩)] 119))):=xN
  have HX:Hid (∀b,w.heap.size<b->¬Aside rb mb b c/\¬Aside rb mb b ch/\¬Aside rb mb b w.heap.size/\(∀g,(Value.slice va k.out.size vc).ownBlock=some g->¬Aside rb mb b g)/\rb<w.heap.size/\mb<w.heap.size):=fun b hb=>by
   obtain⟨es,ck,hmap,_⟩:=hR.uses;have eD:=hR.box;have l1:=(Array.getElem?_eq_some_iff.1 eD).1;have l2:=(Array.getElem?_eq_some_iff.1 hmap).1
   have key:∀i o,w.heap[i]? =some o->o≠.map es ck->o≠.cells #[.int .i64 sz,.int .i64 mx,.int .i64 k.ph,.map (some mb)] 228 (0,0)->¬Aside rb mb b i:=fun i o ho n1 n2=>by
    have l3:=(Array.getElem?_eq_some_iff.1 ho).1;rintro(rfl|rfl|h)
    ·exact n2 (Option.some.inj (ho.symm.trans eD))
    ·exact n1 (Option.some.inj (ho.symm.trans hmap))
    ·omega
   refine⟨key c _ hB (by simp) (by simp),key ch _ hC (by simp) (by simp),?_,fun g hg=>?_,l1,l2⟩
   ·rintro(h|h|h)<;>omega
   ·rcases hO.2 with⟨e,_⟩|⟨g',cap',cur',e,_,h3,_⟩
    ·rw[e]at hg;cases hg
    ·rw[e]at hg;cases hg;exact key _ _ h3 (by simp) (by simp)
  have KY:=h.out;have Ht:=h.qu;clear hB hO hR hC hM xN;refine callsIn_of_wp_marks func100 rfl trivial ?_ rfl;simp only[ntmps100,List.size_toArray,List.length_cons,List.length_nil,Nat.reduceAdd,Nat.reduceSub,Array.replicate_succ,Array.replicate_zero,List.push_toArray,List.append_toArray,List.nil_append,List.cons_append]
  gi_wp2_with (first|(refine⟨trivial,?_⟩;gi_at_call 151;refine(callsIn_wide.2 (lg c ch va k.out.size vc qu ou _ (by omega) Ht HM.out)).mono ?_;rw[hh];rintro e w1 ⟨rfl,bz⟩;have Xe:=HA.out w1 (HB.out.trans (bz.mono (by simp)));have r11:w1.cell? ⟨c,11,none⟩=some (.pointer (some ⟨rb,0,none⟩)):=aa Xe.1 rfl;have r12:w1.cell? ⟨c,12,none⟩=some (.string k.aO):=aa Xe.1 rfl;have r0:w1.cell? ⟨w.heap.size,0,none⟩=some (.pointer (some ⟨c,0,none⟩)):=aP bz (by simp[go_sem])))
  refine wpIn_wide.2 ?_;refine wp_region_noPanic ?_;refine wp_region_held_drew (S:=TF c rb w.heap.size k.aO) (by kernel_rfl) ⟨r11,r12,r0⟩ ?_;intro hHeld;refine tk 0 ?_;refine tk 1 ?_;refine tk 2 ?_;refine tk 3 ?_;refine tk 4 ?_;refine tk 5 ?_;refine tk 6 ?_;refine tk 7 ?_;refine rH 8 fun K hK=>?_;go_simp
  (refine(zL rb k.aO _).mono ?_;rintro e w4 ⟨rfl,rfl⟩)
  go_wp2_with fail;refine hK.out _ _ (TF.Rw hHeld) (fun UC=>?_);clear hK K;refine wpAnyH_done (by kernel_rfl) ?_ _
  (refine NoPanic.normal ?_;gi_wp2)
  obtain⟨hsz,PC,To,bE⟩:=LK w1 rb k.aO;have oX:Below w.heap.size w w1:=HB.out.trans (bz.mono (by simp));have UI:w.heap.size<w1.heap.size:=by have:=bz.size;simp at this;omega
  have iX:Below w.heap.size w (Cd w1 rb k.aO):=oX.trans (bE.mono (Nat.le_of_lt UI));have dX:(Cd w1 rb k.aO).heap[w.heap.size]? =some (.cells #[.pointer (some ⟨c,0,none⟩)] 119 (0,0)):=(bE.block _ UI).trans ((bz.block _ (by simp)).trans (heap_alloc_new w _));obtain⟨y1,y2,y3,y4⟩:=HA.out _ iX;obtain⟨x1,x2,x3,x4,x5,x6⟩:=HX.out _ UI;show Code.wpIn Fence.wide 3 prog _ _ _ (Cd w1 rb k.aO);generalize Cd w1 rb k.aO=W0 at*;generalize w1.heap.size=b at*;have Zf:iO W0 rb mb b (b+1) sz mx k.aO ⟨k.ph,[],0⟩:=⟨y3,PC,by rw[show k.aO.extract (⟨k.ph,[],0⟩:St).pos k.aO.size=k.aO by simp];exact To,by omega,by omega,by omega,by omega,by omega⟩;have hz:=h.sz.1;have aax:=h.aO
  refine nC (w:=W0) rfl (by decide) (gf:=189) (lb:=#[.pointer (some ⟨b,0,none⟩),.pointer (some ⟨b+1,0,none⟩)]) rfl trivial (enters_of func189 (by kernel_rfl) rfl) (encs:=Ev) (fun _=>rfl)
   (R:=TD rb mb (b+1)) (Kp:=Qi rb mb b (b+1)) (V:=nJ sz mx k.aO ⟨k.ph,[],0⟩)
   (S:=fun xs W'=>nJ sz mx k.aO ⟨k.ph,[],0⟩ xs/\(((⟨k.ph,[],0⟩:St).run xs).next sz mx k.aO).2=0/\iO W' rb mb b (b+1) sz mx k.aO ((⟨k.ph,[],0⟩:St).run xs))
   (Sp:=fun pre W'=>nJ sz mx k.aO ⟨k.ph,[],0⟩ pre/\iO W' rb mb b (b+1) sz mx k.aO ((⟨k.ph,[],0⟩:St).run pre))
   (fun W hW=>Lh 2 (by decide) _ _ _ _ sz mx k.aO ⟨k.ph,[],0⟩ W hz (by omega) (by simp) (Nat.zero_le _) (Zf.later hW)) ?hR ?hKt ?hKb ?hS ?YN
   (TE c rb mb ch b w.heap.size sz cl qu mx qn rt bu wk ou de k) (Wx c rb mb ch b sz cl qu mx qn rt bu wk ou de k) ?hI ?hIx ?h0 (Ww c rb b w.heap.size k.aO) ?hAx ?assign ?body ?done ?stop
  case hR=>rintro r (h|h|h)<;>omega
  case hKt=>exact fun h k=>⟨k.1.trans h.1,k.2.1.trans h.2.1,k.2.2.1.trans h.2.2.1,k.2.2.2.trans h.2.2.2⟩
  case hKb=>exact fun W o=>⟨World.putObj_heap_other (by omega),World.putObj_heap_other (by omega),World.putObj_heap_other (by omega),World.putObj_heap_other (by omega)⟩
  case hS=>exact fun xs W W' row h hg hr=>⟨h.1,h.2.1,h.2.2.kept ⟨hg.block _ h.2.2.rd.lt.1 (fun e=>by have:=hr _ e.symm;omega),hg.block _ h.2.2.rd.lt.2 (fun e=>by have:=hr _ e.symm;omega),hg.block _ (Array.getElem?_eq_some_iff.1 h.2.2.cp).1 (fun e=>by have:=hr _ e.symm;omega),hg.block _ (Array.getElem?_eq_some_iff.1 h.2.2.tx).1 (fun e=>by have:=hr _ e.symm;omega)⟩⟩
  case YN=>exact fun xs W W' row h hg hr=>⟨h.1,h.2.kept ⟨hg.block _ h.2.rd.lt.1 (fun e=>by have:=hr _ e.symm;omega),hg.block _ h.2.rd.lt.2 (fun e=>by have:=hr _ e.symm;omega),hg.block _ (Array.getElem?_eq_some_iff.1 h.2.cp).1 (fun e=>by have:=hr _ e.symm;omega),hg.block _ (Array.getElem?_eq_some_iff.1 h.2.tx).1 (fun e=>by have:=hr _ e.symm;omega)⟩⟩
  case hI=>rw[hsz];exact TE.bears x1 x2 x3
  case hIx=>rw[hsz];exact Wx.bears x1 x2
  case h0=>exact⟨k,_,.nil,nw,y1,y2,x4,y4,dX⟩
  case hAx=>rw[hsz];exact fun x=>Ww.bears (by omega) (by omega) x
  case assign=>
   rintro l pre ⟨m,nn⟩ W K hi hv xP hK
   gi_wp2
   have hg:=World.grownBy_alloc W (.cells (aL m.wh m.nm m.kd m.fl m.ck m.of m.ln m.dt m.er) 132) none;refine hK _ (W.alloc (.cells (aL m.wh m.nm m.kd m.fl m.ck m.of m.ln m.dt m.er) 132)) ?_ ?_ ?_ ?_
   ·exact⟨Below.heap_alloc _ _ _ (by omega),Below.heap_alloc _ _ _ (by omega)⟩
   ·exact⟨Below.heap_alloc _ _ _ (by omega),Below.heap_alloc _ _ _ (by omega),Below.heap_alloc _ _ _ (by omega),Below.heap_alloc _ _ _ (by omega)⟩
   ·exact TE.bears x1 x2 x3 _ _ _ none hi hg (fun r e=>by cases e)
   ·exact⟨W.heap.size,by omega,heap_alloc_new _ _,rfl⟩
  case body=>
   rintro l pre ⟨m,nn⟩ a' W ⟨k1,v,g1,g2,g3,g4,g5,g6,g7⟩ ⟨bm,x1',x2',rfl⟩ hv xP;obtain⟨i1,i2,i3,i4,i5,i6,i7,i8⟩:=pU g1 h.jU;have KX:=xH g1 h.jU;have Xn:=((ym sz mx k.aO ⟨k.ph,[],0⟩ pre (m,nn)).1 hv).2;rw[KX]at Xn;obtain⟨hf,hn0⟩:=Xn;have hin:=pO sz mx k1.ph [] k1.aO;have hnm:=pP sz mx k1.ph [] k1.aO;have KL:=iz sz mx k1.ph [] k1.aO i5;rw[hf]at hin hnm KL;obtain⟨K,rfl⟩:∃K:Nat,nn=(K:Int):=⟨nn.toNat,by have:=hin.1;simp at this;omega⟩;have hK:K<=k1.aO.size:=by have:=hin.2;simp at this;omega
   have uo:W.cell? ⟨c,12,none⟩=some (.string k1.aO):=aa g3 rfl;have f12:=aG g3 12;have c0:W.cell? ⟨w.heap.size,0,none⟩=some (.pointer (some ⟨c,0,none⟩)):=aa g7 rfl;have hi1:k1.aO.size<=1048576:=by rw[i3];simp[ByteArray.size_extract];omega
   have hkI:(K:Int)<=(k1.aO.size:Int):=by omega
   have HG:Hid (Goes sz mx ou k pre k1/\k1.hears ou/\first sz mx k1.ph [] k1.aO=(m,(K:Int))/\(K:Int)≠0/\m.nm.size<=1/\(m.wh=1\/m.wh=2\/m=.closing)):=⟨g1,g2,hf,hn0,hnm,by rcases KL with h|h|h|h;exact absurd h hn0;exact .inl h;exact .inr (.inl h);exact .inr (.inr h)⟩;have HQ:Hid (bC W c k.no k.wt sz cl qu mx qn rt bu wk ou rb k1.aO v k.tok de ch/\cD W v k1.out/\(∀g,v.ownBlock=some g->¬Aside rb mb b g)/\W.heap[ch]? =some (.chan 0 #[] false 0 0 false)/\W.heap[w.heap.size]? =some (.cells #[.pointer (some ⟨c,0,none⟩)] 119 (0,0))/\W.heap[bm]? =some (.cells (aL m.wh m.nm m.kd m.fl m.ck m.of m.ln m.dt m.er) 132 (0,0))/\b+4<=bm/\W0.heap.size+2<=W.heap.size):=⟨g3,g4,g5,g6,g7,x2',x1',xP⟩;have HI:Hid (k1.no=k.no/\k1.wt=k.wt/\k1.tok=k.tok/\k1.ph=((⟨k.ph,[],0⟩:St).run pre).ph/\((⟨k.ph,[],0⟩:St).run pre).used=[]):=⟨i6,i7,i8,i1,i2⟩;clear g1 g2 g3 g4 g5 g6 g7 x1' x2' xP i1 i2 i3 i4 i5 i6 i7 i8 hf hn0 hnm KL hin KX hv;unfold ReA
   gi_wp2
   rename_i K0 Pu;have YK:=Pu
   have iQ:K0 (ReB c rb b w.heap.size k.aO k1.aO m K bm) (W.setCell ⟨c,12,none⟩ (.string (k1.aO.extract K k1.aO.size))).drew:=by
    obtain⟨p1,p2,p3,p4,p5,p6⟩:=HG.out;obtain⟨q1,q2,q3,q4,q5,q6,q7,q8⟩:=HQ.out;obtain⟨j1,j2,j3,j4,j5⟩:=HI.out;have n1:ch≠c:=aJ q4 q1 (by simp);have n2:w.heap.size≠c:=aJ q5 q1 (by simp);have n3:bm≠c:=aJ q6 q1 (by simp);obtain⟨W5,Px⟩:∃W5,W5=(W.setCell ⟨c,12,none⟩ (.string (k1.aO.extract K k1.aO.size))).drew:=⟨_,rfl⟩;have B5:bC W5 c k.no k.wt sz cl qu mx qn rt bu wk ou rb (k1.aO.extract K k1.aO.size) v k.tok de ch:=by rw[Px];exact aX q1 12 _
    have O5:cD W5 v k1.out:=by rw[Px];exact Gj q2 q1 (by decide)
    have C5:W5.heap[ch]? =some (.chan 0 #[] false 0 0 false):=by rw[Px];exact aS q4 n1 _ _
    have M5:W5.heap[bm]? =some (.cells (aL m.wh m.nm m.kd m.fl m.ck m.of m.ln m.dt m.er) 132 (0,0)):=by rw[Px];exact aS q6 n3 _ _
    have X5:W5.heap[w.heap.size]? =some (.cells #[.pointer (some ⟨c,0,none⟩)] 119 (0,0)):=by rw[Px];exact aS q5 n2 _ _
    have T5:aF (fun i=>i=c) W W5:=by rw[Px];exact⟨rfl,by simp,fun i _ hi=>Below.heap_setCell _ _ _ _ hi⟩
    rw[<-Px];clear Px Pu q1 q2 q4 q5 q6 uo f12 c0;refine YK _ _ ?_;have z0:W5.cell? ⟨bm,0,none⟩=some (.int .i64 m.wh):=aa M5 rfl;have z1:W5.cell? ⟨bm,1,none⟩=some (.string m.nm):=aa M5 rfl;have z2:W5.cell? ⟨bm,2,none⟩=some (.int .i64 m.kd):=aa M5 rfl;have z3:W5.cell? ⟨bm,3,none⟩=some (.int .i64 m.fl):=aa M5 rfl;have z4:W5.cell? ⟨bm,4,none⟩=some (.int .i64 m.ck):=aa M5 rfl;have z5:W5.cell? ⟨bm,5,none⟩=some (.int .i64 m.of):=aa M5 rfl;have z6:W5.cell? ⟨bm,6,none⟩=some (.int .i64 m.ln):=aa M5 rfl;have z7:W5.cell? ⟨bm,7,none⟩=some (.string m.dt):=aa M5 rfl;have z8:W5.cell? ⟨bm,8,none⟩=some (.int .i64 m.er):=aa M5 rfl;have y0:W5.cell? ⟨w.heap.size,0,none⟩=some (.pointer (some ⟨c,0,none⟩)):=aa X5 rfl;have HW5:Hid (bC W5 c k.no k.wt sz cl qu mx qn rt bu wk ou rb (k1.aO.extract K k1.aO.size) v k.tok de ch/\cD W5 v k1.out/\W5.heap[ch]? =some (.chan 0 #[] false 0 0 false)/\W5.heap[w.heap.size]? =some (.cells #[.pointer (some ⟨c,0,none⟩)] 119 (0,0))/\aF (fun i=>i=c) W W5/\ch≠c/\w.heap.size≠c):=⟨B5,O5,C5,X5,T5,n1,n2⟩;have Xm:k1.out.size<=1048576:=by have:=p2.2;have:=h.ou;omega
    clear B5 O5 C5 M5 X5 T5 n1 n2 n3;have H0:=h.sz;have H1:=h.mx;have H2:m.nm.size<=65535:=by omega
    have XJ:Hid (∀W7,aF (fun i=>i=c\/some i=v.ownBlock\/i=ch) W W7->TK (b+2) W W7/\Qi rb mb b (b+1) W W7):=fun W7 hT=>Li hT (by rintro i (rfl|e|rfl);exact x1;exact q3 i e.symm;exact x2) (by omega) (by omega) (by omega);have H5:=h.qu;clear p1 p2 p3 p4 p5 q3 q7 q8 j1 j2 j3 j4 j5;unfold ReB;have p6':(m.wh=1\/m.wh=2)\/m=.closing:=by rcases p6 with h|h|h;exact .inl (.inl h);exact .inl (.inr h);exact .inr h
    clear p6;rcases p6' with hm|hm
    ·have HM:Hid (m.wh=1\/m.wh=2):=hm;clear hm;obtain⟨dd,hd⟩:∃dd,dd=decide (((k1.out++answer sz mx m).size:Int)+6<=ou):=⟨_,rfl⟩
     have ZA:(k1.out++answer sz mx m).size<=2097152:=by have:(answer sz mx m).size<=65540:=Ba H2;rw[ByteArray.size_append];omega
     have hap:=HQ.out.2.2.1;have YT:b+4<=W.heap.size:=by have:=HQ.out.2.2.2.2.2.2.2;omega
     have HE:Hid (Calls prog 153 #[.pointer (some ⟨c,0,none⟩),.agg (aL m.wh m.nm m.kd m.fl m.ck m.of m.ln m.dt m.er)] W5 fun e W6=>e=.returned (.tuple #[])/\∃oa oc,bC W6 c k.no k.wt sz cl qu mx qn rt bu wk ou rb (k1.aO.extract K k1.aO.size) (.slice oa (k1.out++answer sz mx m).size oc) k.tok de ch/\cD W6 (.slice oa (k1.out++answer sz mx m).size oc) (k1.out++answer sz mx m)/\
       aF (fun i=>i=c\/some i=v.ownBlock\/i=ch) W W6/\W6.heap[ch]? =some (.chan 0 #[] false 0 0 false)/\W6.heap[w.heap.size]? =some (.cells #[.pointer (some ⟨c,0,none⟩)] 119 (0,0))/\∀g,(Value.slice oa (k1.out++answer sz mx m).size oc).ownBlock=some g->¬Aside rb mb b g):=by
      obtain⟨B5,O5,C5,X5,T5,n1,n2⟩:=HW5.out;refine(KN c ch rb k.no k.wt sz cl qu mx qn rt bu wk ou k.tok de (k1.aO.extract K k1.aO.size) k1.out v m W5 H0 H1 H2 Xm HM.out B5 O5).mono ?_;rintro e W6 ⟨rfl,out',B6,O6,T6,wh6⟩;obtain⟨oa,oc,rfl⟩:=fG O6;refine⟨rfl,oa,oc,B6,O6,(T5.mono fun i _ h=>.inl h).trans (T6.mono fun i _ h=>h.elim .inl fun e=>.inr (.inl e)),aN T6 C5 ?_,aN T6 X5 ?_,fun g hg=>?_⟩
      ·rintro(e|e)
       ·exact n1 e
       ·exact Ey O5 C5 (by simp) e
      ·rintro(e|e)
       ·exact n2 e
       ·exact Ey O5 X5 (by simp) e
      ·rcases wh6 with e|e
       ·exact hap g (e▸hg)
       ·have:=e g hg;have:=T5.size;rintro(h|h|h)<;>omega
     have HR:Hid (∀W6 oa oc,bC W6 c k.no k.wt sz cl qu mx qn rt bu wk ou rb (k1.aO.extract K k1.aO.size) (.slice oa (k1.out++answer sz mx m).size oc) k.tok de ch->W6.heap[ch]? =some (.chan 0 #[] false 0 0 false)->
       Calls prog 151 #[.pointer (some ⟨c,0,none⟩)] W6 fun e w'=>e=.returned (.bool dd)/\Below W6.heap.size W6 w'):=fun W6 oa oc B6 C6=>by
      rw[hd];exact lg c ch oa _ oc qu ou W6 (by omega) H5 ⟨aa B6 rfl,aa B6 rfl,aa B6 rfl,aa B6 rfl,aa B6 rfl,aa B6 rfl,C6⟩
     have HD:Hid (dd=decide (((k1.out++answer sz mx m).size:Int)+6<=ou)):=hd;clear hd ZA hap YT;cases dd with
     |true=>
      gi_wp2_with (first|(refine⟨trivial,?_⟩;gi_at_call 153;refine(CallsIn.inRound l (callsIn_wide.2 HE.out)).mono ?_;rintro e W6 ⟨rfl,oa,oc,B6,O6,T6,C6,X6,A6⟩;have y6:W6.cell? ⟨w.heap.size,0,none⟩=some (.pointer (some ⟨c,0,none⟩)):=aa X6 rfl;have JC:Hid (bC W6 c k.no k.wt sz cl qu mx qn rt bu wk ou rb (k1.aO.extract K k1.aO.size) (.slice oa (k1.out++answer sz mx m).size oc) k.tok de ch/\cD W6 (.slice oa (k1.out++answer sz mx m).size oc) (k1.out++answer sz mx m)/\aF (fun i=>i=c\/some i=v.ownBlock\/i=ch) W W6/\W6.heap[ch]? =some (.chan 0 #[] false 0 0 false)/\W6.heap[w.heap.size]? =some (.cells #[.pointer (some ⟨c,0,none⟩)] 119 (0,0))/\∀g,(Value.slice oa (k1.out++answer sz mx m).size oc).ownBlock=some g->¬Aside rb mb b g):=⟨B6,O6,T6,C6,X6,A6⟩;clear B6 O6 T6 C6 X6 A6)|(refine⟨trivial,?_⟩;gi_at_call 151;refine(CallsIn.inRound l (callsIn_wide.2 (HR.out _ oa oc JC.out.1 JC.out.2.2.2.1))).mono ?_;rintro e W7 ⟨rfl,FT⟩))
      obtain⟨p1,p2,p3,p4,p5,p6⟩:=HG.out;obtain⟨B6,O6,T6,C6,X6,A6⟩:=JC.out;have ZG:m.wh≠4:=by have:=HM.out;omega
      have G6:=Goes.snoc p1 p2 p3 p4 ZG;rw[hsz];obtain⟨t1,t2⟩:=XJ.out W7 (T6.trans (.below FT));exact⟨t1,t2,_,_,G6,⟨AY p2.1 HM.out,of_decide_eq_true HD.out.symm⟩,aM FT B6,gZ FT O6,A6,aM FT C6,aM FT X6⟩
     |false=>
      gi_wp2_with (first|(refine⟨trivial,?_⟩;gi_at_call 153;refine(CallsIn.inRound l (callsIn_wide.2 HE.out)).mono ?_;rintro e W6 ⟨rfl,oa,oc,B6,O6,T6,C6,X6,A6⟩;have y6:W6.cell? ⟨w.heap.size,0,none⟩=some (.pointer (some ⟨c,0,none⟩)):=aa X6 rfl;have JC:Hid (bC W6 c k.no k.wt sz cl qu mx qn rt bu wk ou rb (k1.aO.extract K k1.aO.size) (.slice oa (k1.out++answer sz mx m).size oc) k.tok de ch/\cD W6 (.slice oa (k1.out++answer sz mx m).size oc) (k1.out++answer sz mx m)/\aF (fun i=>i=c\/some i=v.ownBlock\/i=ch) W W6/\W6.heap[ch]? =some (.chan 0 #[] false 0 0 false)/\W6.heap[w.heap.size]? =some (.cells #[.pointer (some ⟨c,0,none⟩)] 119 (0,0))/\∀g,(Value.slice oa (k1.out++answer sz mx m).size oc).ownBlock=some g->¬Aside rb mb b g):=⟨B6,O6,T6,C6,X6,A6⟩;clear B6 O6 T6 C6 X6 A6)|(refine⟨trivial,?_⟩;gi_at_call 151;refine(CallsIn.inRound l (callsIn_wide.2 (HR.out _ oa oc JC.out.1 JC.out.2.2.2.1))).mono ?_;rintro e W7 ⟨rfl,FT⟩))
      obtain⟨p1,p2,p3,p4,p5,p6⟩:=HG.out;obtain⟨B6,O6,T6,C6,X6,A6⟩:=JC.out;have ZG:m.wh≠4:=by have:=HM.out;omega
      have G6:=Goes.snoc p1 p2 p3 p4 ZG;obtain⟨r1,r2,r3,r4,r5,r6,r7,r8⟩:=pU G6 h.jU;have hnh:¬(k1.hear sz mx (m,(K:Int))).hears ou:=fun hx=>of_decide_eq_false HD.out.symm hx.2
      have hp:(k1.hear sz mx (m,(K:Int))).ph≠4:=by have:after k1.ph m<=2:=AY p2.1 HM.out;show after k1.ph m≠4;omega
      rw[hsz];obtain⟨t1,t2⟩:=XJ.out W7 (T6.trans (.below FT));refine⟨t1,t2,_,_,fun f hf=>?_,r6,r7,r8,aM FT B6,gZ FT O6,A6,by rw[decide_eq_false hp];exact aM FT C6,fun _=>r1,r2⟩;obtain⟨f',rfl⟩:=Nat.exists_eq_add_of_le hf;rw[rq G6,rm hnh]
    ·have HM:Hid (m=.closing):=hm;have PF:m.wh=4:=by rw[hm];rfl
     have HM4:Hid (m.wh=4):=PF;clear hm PF
     have HE:Hid (Calls prog 153 #[.pointer (some ⟨c,0,none⟩),.agg (aL m.wh m.nm m.kd m.fl m.ck m.of m.ln m.dt m.er)] W5 fun e W6=>e=.returned (.tuple #[])/\bC W6 c k.no k.wt sz cl qu mx qn rt bu wk ou rb ⟨#[]⟩ (.slice none 0 0) k.tok de ch/\
       aF (fun i=>i=c\/some i=v.ownBlock\/i=ch) W W6/\W6.heap[ch]? =some (.chan 0 #[] true 0 0 false)/\W6.heap[w.heap.size]? =some (.cells #[.pointer (some ⟨c,0,none⟩)] 119 (0,0))):=by
      obtain⟨B5,O5,C5,X5,T5,n1,n2⟩:=HW5.out;refine(zn c ch rb k.no k.wt sz cl qu mx qn rt bu wk ou k.tok de (k1.aO.extract K k1.aO.size) k1.out v m W5 H0 H1 H2 Xm HM4.out B5 O5 C5).mono ?_;rintro e W6 ⟨rfl,B6,C6,T6⟩;refine⟨rfl,B6,(T5.mono fun i _ h=>.inl h).trans T6,C6,aN T6 X5 ?_⟩;rintro(e|e|e)
      ·exact n2 e
      ·exact Ey O5 X5 (by simp) e
      ·exact aJ X5 C5 (by simp) e
     have HR:Hid (∀W6,bC W6 c k.no k.wt sz cl qu mx qn rt bu wk ou rb ⟨#[]⟩ (.slice none 0 0) k.tok de ch->W6.heap[ch]? =some (.chan 0 #[] true 0 0 false)->
       Calls prog 151 #[.pointer (some ⟨c,0,none⟩)] W6 fun e w'=>e=.returned (.bool false)/\Below W6.heap.size W6 w'):=fun W6 B6 C6=>zK c ch W6 (aa B6 rfl) C6
     gi_wp2_with (first|(refine⟨trivial,?_⟩;gi_at_call 153;refine(CallsIn.inRound l (callsIn_wide.2 HE.out)).mono ?_;rintro e W6 ⟨rfl,B6,T6,C6,X6⟩;have y6:W6.cell? ⟨w.heap.size,0,none⟩=some (.pointer (some ⟨c,0,none⟩)):=aa X6 rfl;have JC:Hid (bC W6 c k.no k.wt sz cl qu mx qn rt bu wk ou rb ⟨#[]⟩ (.slice none 0 0) k.tok de ch/\aF (fun i=>i=c\/some i=v.ownBlock\/i=ch) W W6/\W6.heap[ch]? =some (.chan 0 #[] true 0 0 false)):=⟨B6,T6,C6⟩;clear B6 T6 C6 X6)|(refine⟨trivial,?_⟩;gi_at_call 151;refine(CallsIn.inRound l (callsIn_wide.2 (HR.out _ JC.out.1 JC.out.2.2))).mono ?_;rintro e W7 ⟨rfl,FT⟩))
     obtain⟨p1,p2,p3,p4,p5,p6⟩:=HG.out;obtain⟨B6,T6,C6⟩:=JC.out;obtain⟨j1,j2,j3,j4,j5⟩:=HI.out;rw[hsz];obtain⟨t1,t2⟩:=XJ.out W7 (T6.trans (.below FT));refine⟨t1,t2,k1.shut,.slice none 0 0,fun f hf=>?_,j1,j2,j3,aM FT B6,World.ownsRow_nil _ _ _ _,fun g hg=>(by cases hg),aM FT C6,fun h=>absurd rfl h,?_⟩
     ·obtain⟨f',rfl⟩:=Nat.exists_eq_add_of_le hf;have e:(pre++[(m,(K:Int))]).length+f'=pre.length+(f'+1):=by simp;omega
      rw[e,rq p1,yg p2 p3 p4 HM4.out]
     ·rw[St.vG];show(if accepted m then _ else _)=[];rw[HM.out];exact j5
   gi_region<;>exact iQ
  case done=>
   rintro xs W ⟨hr,hend,hit⟩ ⟨k1,v,g1,g2,g3,g4,g5,g6,g7⟩ hD;obtain⟨i1,i2,i3,i4,i5,i6,i7,i8⟩:=pU g1 h.jU;have hlen:=vI sz mx k.aO ⟨k.ph,[],0⟩ xs (Nat.zero_le _) hr;have hk1:k1.ph≠4:=by have:=g2.1;omega
   have hrd:Cl.read sz mx ou (k.aO.size+1) k=k1:=by obtain⟨f,hf⟩:∃f,k.aO.size+1=xs.length+f:=⟨k.aO.size+1-xs.length,by have:=hlen.1;have:=hlen.2;simp only at*;omega⟩;rw[hf,rq g1,yf (by rw[xH g1 h.jU]at hend;exact hend)]
   have Ur:aU W c rb mb ch sz cl qu mx qn rt bu wk ou de k1:=by have Vo:=hit.rd;rw[i2]at Vo;refine⟨⟨v,?_,g4⟩,⟨_,Vo,fun _=>i1.symm⟩,by rw[decide_eq_false hk1];exact g6⟩;rw[i6,i7,i8];exact g3
   have HQ:Hid (aU W c rb mb ch sz cl qu mx qn rt bu wk ou de (Cl.read sz mx ou (k.aO.size+1) k)):=by rw[hrd];exact Ur
   clear Ur hrd hlen hk1 i1 i2 i3 i4 i5 i6 i7 i8 g1 g2 g3 g4 g5 g6 g7 hr hend hit
   gi_wp2
   refine⟨by simp,.inl ⟨_,_,rfl,run_takeDeferred hD,.tuple #[],by simp[results,results100],rfl,HQ.out.off hD fun i hi=>World.putObj_heap_other hi⟩⟩
  case stop=>
   rintro pre W ⟨hr,hit⟩ ⟨k2,v,g1,g2,g2',Uo,g3,g4,g5,g6,g7,g8⟩ hD;have hlen:=vI sz mx k.aO ⟨k.ph,[],0⟩ pre (Nat.zero_le _) hr;have hrd:Cl.read sz mx ou (k.aO.size+1) k=k2:=g1 _ (by have:=hlen.1;have:=hlen.2;simp only at*;omega)
   have Ur:aU W c rb mb ch sz cl qu mx qn rt bu wk ou de k2:=by have Vo:=hit.rd;rw[g8]at Vo;refine⟨⟨v,?_,g4⟩,⟨_,Vo,fun h=>(g7 h).symm⟩,g6⟩;rw[g2,g2',Uo];exact g3
   have HQ:Hid (aU W c rb mb ch sz cl qu mx qn rt bu wk ou de (Cl.read sz mx ou (k.aO.size+1) k)):=by rw[hrd];exact Ur
   clear Ur hrd hlen g1 g2 g2' Uo g3 g4 g5 g6 g7 g8 hr hit
   gi_wp2
   refine⟨by simp,.inl ⟨_,_,rfl,run_takeDeferred hD,.tuple #[],by simp[results,results100],rfl,HQ.out.off hD fun i hi=>World.putObj_heap_other hi⟩⟩
end
end Go.Proofs.YtpobhljcainmdaaGreat
