/- Proved here: a part of what Doors keeps (Wire7, Wire8, Iter). -/
import Derived.Below
import Derived.RangeFuncLeaves
import Derived.RangeFuncNested
import Derived.Test.YtpobhljcainmdaaGreatJ01
import Derived.Test.YtpobhljcainmdaaGreatJ05
set_option maxRecDepth 100000
set_option maxHeartbeats 8000000
set_option linter.all false
namespace Go.Proofs.YtpobhljcainmdaaGreat
section
open Go.Proofs.Tryz
open Go.RowKit
attribute [local go_sem ↓] Go.wp_at_zero Go.wp_at_succ
attribute [local go_sem] au aj
theorem uy{f:FuncId}{args:Array Value}{w:World}{m:bg}{n:Int}(h:Calls prog f args w fun e w'=>Ends (m,n) e/\Below w.heap.size w w')(hr:m.wh≠4):
  Calls prog f args w fun e w'=>e=.returned (.tuple #[.agg (aL m.wh m.nm m.kd m.fl m.ck m.of m.ln m.dt m.er),.int .i64 n])/\Below w.heap.size w w':=
 h.mono fun e w' h=>by
  obtain⟨⟨h1,_⟩|⟨_,h2⟩,hb⟩:=h
  ·exact absurd (by rw[show m=bg.closing from h1];rfl) hr
  ·exact⟨h2,hb⟩
theorem ux{f:FuncId}{args:Array Value}{w:World}{m:bg}{n:Int}(h:Calls prog f args w fun e w'=>Ends (m,n) e/\Below w.heap.size w w')(hr:m.wh=4):
  Calls prog f args w fun e w'=>e=.panicked [{v:=GC n,recovered:=false}]/\(m=.closing/\Below w.heap.size w w'):=
 h.mono fun e w' h=>by
  obtain⟨⟨h1,h2⟩|⟨h1,_⟩,hb⟩:=h
  ·exact⟨h2,h1,hb⟩
  ·exact absurd hr h1
theorem vA{W:World}{b bn:Nat}{m:bg}{n:Int}(h:cL W b m)(hn:W.cell? ⟨bn,0,none⟩=some (.int .i64 n))(tmps:Array Value)(h4:tmps.getD 4 undef=.pointer (some ⟨b,0,none⟩))(h5:tmps.getD 5 undef=.pointer (some ⟨bn,0,none⟩)):
  (results f190 tmps).run prog W=.ok (.tuple #[m.val,.int .i64 n]) W:=by
 obtain⟨h0,h1,h2,h3,h4',Yw,h6,h7,h8⟩:=h;simp only[Array.getD_eq_getD_getElem?]at h4 h5;simp[results,results190,go_sem,h4,h5,h0,h1,h2,h3,h4',Yw,h6,h7,h8,hn]
abbrev iq(w:World):World:=(w.alloc (.cells (aL 0 ⟨#[]⟩ 0 0 0 0 0 ⟨#[]⟩ 0) 132)).alloc (.cells #[.int .i64 0] 3)
theorem vk{w w1:World}(hb:Below (iq w).heap.size (iq w) w1):w1.heap[w.heap.size]? =some (.cells (aL 0 ⟨#[]⟩ 0 0 0 0 0 ⟨#[]⟩ 0) 132 (0,0))/\w1.heap[w.heap.size+1]? =some (.cells #[.int .i64 0] 3 (0,0))/\Below w.heap.size w w1:=by
 refine⟨?_,?_,?_⟩
 ·rw[hb.block _ (by simp;omega),Below.heap_alloc _ _ _ (by simp)];exact heap_alloc_new w _
 ·rw[hb.block _ (by simp)];have:=heap_alloc_new (w.alloc (.cells (aL 0 ⟨#[]⟩ 0 0 0 0 0 ⟨#[]⟩ 0) 132)) (.cells #[.int .i64 0] 3)
  rwa [World.size_alloc]at this
 ·exact(((Below.refl _ _).alloc (Nat.le_refl _) _).alloc (by simp) _).trans (hb.mono (by simp;omega))
theorem qW{w w1:World}{m:bg}{n:Int}(tmps:Array Value)(h4:tmps.getD 4 undef=.pointer (some ⟨w.heap.size,0,none⟩))(h5:tmps.getD 5 undef=.pointer (some ⟨w.heap.size+1,0,none⟩))(hb:Below (iq w).heap.size (iq w) w1):
  bodyPostD prog f190 (fun e w'=>e=.returned (.tuple #[m.val,.int .i64 n])/\Below w.heap.size w w') Exit.ret
   {tmps:=tmps,defers:=[{target:=.fn (.func 226) #[.pointer (some ⟨w.heap.size,0,none⟩),.pointer (some ⟨w.heap.size+1,0,none⟩)],args:=#[]}]}
   ((((((((((w1.setCell ⟨w.heap.size,0,none⟩ (.int .i64 m.wh)).setCell ⟨w.heap.size,1,none⟩ (.string m.nm)).setCell ⟨w.heap.size,2,none⟩ (.int .i64 m.kd)).setCell ⟨w.heap.size,3,none⟩ (.int .i64 m.fl)).setCell ⟨w.heap.size,4,none⟩ (.int .i64 m.ck)).setCell ⟨w.heap.size,5,none⟩ (.int .i64 m.of)).setCell ⟨w.heap.size,6,none⟩ (.int .i64 m.ln)).setCell ⟨w.heap.size,7,none⟩ (.string m.dt)).setCell ⟨w.heap.size,8,none⟩ (.int .i64 m.er)).setCell ⟨w.heap.size+1,0,none⟩ (.int .i64 n)):=by
 obtain⟨hm,hn,hB⟩:=vk hb;have hA:=tL (W:=w1) (b:=w.heap.size) m (pG hm)
 have hA':cL ((w1.setCells w.heap.size 0 m.cells).setCell ⟨w.heap.size+1,0,none⟩ (.int .i64 n)) w.heap.size m:=
  cL.cG (w:=w1.setCells w.heap.size 0 m.cells) (row:=some (w.heap.size+1)) hA (jN _ _ _ _) (aZ hA.1) (by simp)
 have hn':((w1.setCells w.heap.size 0 m.cells).setCell ⟨w.heap.size+1,0,none⟩ (.int .i64 n)).cell? ⟨w.heap.size+1,0,none⟩=some (.int .i64 n):=by refine World.cell?_setCell_same' (w1.setCells w.heap.size 0 m.cells) ⟨w.heap.size+1,0,none⟩ _ ?_;have e:(w1.setCells w.heap.size 0 m.cells).cell? ⟨w.heap.size+1,0,none⟩=w1.cell? ⟨w.heap.size+1,0,none⟩:=World.cell?_setCells_out w.heap.size m.cells 0 w1 ⟨w.heap.size+1,0,none⟩ (fun h=>absurd h (by simp));rw[e];simp[World.cell?,hn]
 refine leaves_cons (f:=226) (args:=#[.pointer (some ⟨w.heap.size,0,none⟩),.pointer (some ⟨w.heap.size+1,0,none⟩)]) (by simp) (by simp[go_sem]) ?_;refine(xB _ _ _).mono ?_;rintro e u' w'' ⟨rfl,rfl,rfl⟩;exact⟨_,vA (b:=w.heap.size) (bn:=w.heap.size+1) (m:=m) (n:=n) hA' hn' _ h4 h5,rfl,(kK hB (Nat.le_refl _) m).setCell (p:=⟨w.heap.size+1,0,none⟩) (Nat.le_succ _) _⟩
theorem mL{w w1:World}{m:bg}{n:Int}(dw:m=.closing)(tmps:Array Value)(h4:tmps.getD 4 undef=.pointer (some ⟨w.heap.size,0,none⟩))(h5:tmps.getD 5 undef=.pointer (some ⟨w.heap.size+1,0,none⟩))(hb:Below (iq w).heap.size (iq w) w1):
  bodyPostD prog f190 (fun e w'=>e=.returned (.tuple #[m.val,.int .i64 n])/\Below w.heap.size w w') (Exit.panic [{v:=GC n,recovered:=false}])
   {tmps:=tmps,defers:=[{target:=.fn (.func 226) #[.pointer (some ⟨w.heap.size,0,none⟩),.pointer (some ⟨w.heap.size+1,0,none⟩)],args:=#[]}]} w1:=by
 subst dw;obtain⟨hm,hn,hB⟩:=vk hb;have hsz:w.heap.size<=w1.heap.size:=hB.size;refine leaves_cons (f:=226) (args:=#[.pointer (some ⟨w.heap.size,0,none⟩),.pointer (some ⟨w.heap.size+1,0,none⟩)]) (by simp) (by simp[go_sem]) ?_;refine(Bq w.heap.size (w.heap.size+1) n [] w1 (by omega) hm hn).mono ?_;rintro e u' w2 ⟨rfl,rfl,hA,hc,iX⟩;exact⟨_,vA (b:=w.heap.size) (bn:=w.heap.size+1) (m:=bg.closing) (n:=n) hA hc _ h4 h5,rfl,hB.trans (iX _ (Nat.le_refl _) (Nat.le_succ _) hsz)⟩
theorem vo(rb:Nat)(s:ByteArray)(w:World)(hs:s.size<=maxLen)(nw:w.cell? ⟨rb,2,none⟩=some (.int .i64 0))(m:bg)(n:Int)(hg:eW s=(m,n))(tH:m.wh≠4):
  Calls prog 190 #[.pointer (some ⟨rb,0,none⟩),.string s] w fun e w'=>e=.returned (.tuple #[m.val,.int .i64 n])/\Below w.heap.size w w':=by
 have PG:∀(fn:Fn) (first cap:Array Value) (w:World),(Instr.makeFunc fn first cap).run prog w=.ok (.func fn first cap) w:=fun _ _ _ _=>rfl;have hK:Hid (∀W,Below w.heap.size w W->Calls prog 228 #[.string s] W fun e w'=>e=.returned (.tuple #[.agg (aL m.wh m.nm m.kd m.fl m.ck m.of m.ln m.dt m.er),.int .i64 n])/\Below W.heap.size W w'):=fun W hW=>uy (by rw[<-hg];exact pV s W hs) tH;have hrb:=aZ nw;have q0:¬rb=w.heap.size:=by omega
 have q1:¬rb=w.heap.size+1:=by omega
 have Ky:Hid (Below w.heap.size w ((w.alloc (.cells (aL 0 ⟨#[]⟩ 0 0 0 0 0 ⟨#[]⟩ 0) 132)).alloc (.cells #[.int .i64 0] 3))):=((Below.refl _ _).alloc (Nat.le_refl _) _).alloc (by simp) _;clear hg tH
 go_enter_defers func190,ntmps190
 go_wp2_with (go_at_call 228;refine(hK.out _ Ky.out).mono ?_;rintro e w1 ⟨rfl,bz⟩;obtain⟨zk,KO⟩:=cZ bz);exact qW _ rfl rfl bz
theorem vn(rb:Nat)(s:ByteArray)(w:World)(hs:s.size<=maxLen)(nw:w.cell? ⟨rb,2,none⟩=some (.int .i64 0))(m:bg)(n:Int)(hg:eW s=(m,n))(tH:m.wh=4):
  Calls prog 190 #[.pointer (some ⟨rb,0,none⟩),.string s] w fun e w'=>e=.returned (.tuple #[m.val,.int .i64 n])/\Below w.heap.size w w':=by
 have PG:∀(fn:Fn) (first cap:Array Value) (w:World),(Instr.makeFunc fn first cap).run prog w=.ok (.func fn first cap) w:=fun _ _ _ _=>rfl;have hK:Hid (∀W,Below w.heap.size w W->Calls prog 228 #[.string s] W fun e w'=>e=.panicked [{v:=GC n,recovered:=false}]/\(m=.closing/\Below W.heap.size W w')):=fun W hW=>ux (by rw[<-hg];exact pV s W hs) tH;have hrb:=aZ nw;have q0:¬rb=w.heap.size:=by omega
 have q1:¬rb=w.heap.size+1:=by omega
 have Ky:Hid (Below w.heap.size w ((w.alloc (.cells (aL 0 ⟨#[]⟩ 0 0 0 0 0 ⟨#[]⟩ 0) 132)).alloc (.cells #[.int .i64 0] 3))):=((Below.refl _ _).alloc (Nat.le_refl _) _).alloc (by simp) _;clear hg tH
 go_enter_defers func190,ntmps190
 go_wp2_with (go_at_call 228;refine(hK.out _ Ky.out).mono ?_;rintro e w1 ⟨rfl,dw,bz⟩;obtain⟨zk,KO⟩:=cZ bz);exact mL dw _ rfl rfl bz
theorem zN(rb:Nat)(s:ByteArray)(w:World)(hs:s.size<=maxLen)(nw:w.cell? ⟨rb,2,none⟩=some (.int .i64 1))(m:bg)(n:Int)(hg:opt s=(m,n))(tH:m.wh≠4):
  Calls prog 190 #[.pointer (some ⟨rb,0,none⟩),.string s] w fun e w'=>e=.returned (.tuple #[m.val,.int .i64 n])/\Below w.heap.size w w':=by
 have PG:∀(fn:Fn) (first cap:Array Value) (w:World),(Instr.makeFunc fn first cap).run prog w=.ok (.func fn first cap) w:=fun _ _ _ _=>rfl;have hK:Hid (∀W,Below w.heap.size w W->Calls prog 229 #[.string s] W fun e w'=>e=.returned (.tuple #[.agg (aL m.wh m.nm m.kd m.fl m.ck m.of m.ln m.dt m.er),.int .i64 n])/\Below W.heap.size W w'):=fun W hW=>uy (by rw[<-hg];exact vr s W hs) tH;have hrb:=aZ nw;have q0:¬rb=w.heap.size:=by omega
 have q1:¬rb=w.heap.size+1:=by omega
 have Ky:Hid (Below w.heap.size w ((w.alloc (.cells (aL 0 ⟨#[]⟩ 0 0 0 0 0 ⟨#[]⟩ 0) 132)).alloc (.cells #[.int .i64 0] 3))):=((Below.refl _ _).alloc (Nat.le_refl _) _).alloc (by simp) _;clear hg tH
 go_enter_defers func190,ntmps190
 go_wp2_with (go_at_call 229;refine(hK.out _ Ky.out).mono ?_;rintro e w1 ⟨rfl,bz⟩;obtain⟨zk,KO⟩:=cZ bz);exact qW _ rfl rfl bz
theorem zM(rb:Nat)(s:ByteArray)(w:World)(hs:s.size<=maxLen)(nw:w.cell? ⟨rb,2,none⟩=some (.int .i64 1))(m:bg)(n:Int)(hg:opt s=(m,n))(tH:m.wh=4):
  Calls prog 190 #[.pointer (some ⟨rb,0,none⟩),.string s] w fun e w'=>e=.returned (.tuple #[m.val,.int .i64 n])/\Below w.heap.size w w':=by
 have PG:∀(fn:Fn) (first cap:Array Value) (w:World),(Instr.makeFunc fn first cap).run prog w=.ok (.func fn first cap) w:=fun _ _ _ _=>rfl;have hK:Hid (∀W,Below w.heap.size w W->Calls prog 229 #[.string s] W fun e w'=>e=.panicked [{v:=GC n,recovered:=false}]/\(m=.closing/\Below W.heap.size W w')):=fun W hW=>ux (by rw[<-hg];exact vr s W hs) tH;have hrb:=aZ nw;have q0:¬rb=w.heap.size:=by omega
 have q1:¬rb=w.heap.size+1:=by omega
 have Ky:Hid (Below w.heap.size w ((w.alloc (.cells (aL 0 ⟨#[]⟩ 0 0 0 0 0 ⟨#[]⟩ 0) 132)).alloc (.cells #[.int .i64 0] 3))):=((Below.refl _ _).alloc (Nat.le_refl _) _).alloc (by simp) _;clear hg tH
 go_enter_defers func190,ntmps190
 go_wp2_with (go_at_call 229;refine(hK.out _ Ky.out).mono ?_;rintro e w1 ⟨rfl,dw,bz⟩;obtain⟨zk,KO⟩:=cZ bz);exact mL dw _ rfl rfl bz
theorem zP(rb:Nat)(s:ByteArray)(w:World)(mb:Nat)(sz mx:Int)(us:List Int)(hz:0<=sz)(oF:s.size<=281474976710656)(hR:cW w rb mb sz mx 2 us)(nw:w.cell? ⟨rb,2,none⟩=some (.int .i64 2))(m:bg)(n:Int)(hg:cS sz mx us s=(m,n))(tH:m.wh≠4):
  Calls prog 190 #[.pointer (some ⟨rb,0,none⟩),.string s] w fun e w'=>e=.returned (.tuple #[m.val,.int .i64 n])/\Below w.heap.size w w':=by
 have PG:∀(fn:Fn) (first cap:Array Value) (w:World),(Instr.makeFunc fn first cap).run prog w=.ok (.func fn first cap) w:=fun _ _ _ _=>rfl;have hK:Hid (∀W,Below w.heap.size w W->Calls prog 230 #[.pointer (some ⟨rb,0,none⟩),.string s] W fun e w'=>e=.returned (.tuple #[.agg (aL m.wh m.nm m.kd m.fl m.ck m.of m.ln m.dt m.er),.int .i64 n])/\Below W.heap.size W w'):=fun W hW=>uy (by rw[<-hg];exact sF rb mb sz mx 2 us s W hz oF (hR.later hW)) tH;have hrb:=aZ nw;have q0:¬rb=w.heap.size:=by omega
 have q1:¬rb=w.heap.size+1:=by omega
 have Ky:Hid (Below w.heap.size w ((w.alloc (.cells (aL 0 ⟨#[]⟩ 0 0 0 0 0 ⟨#[]⟩ 0) 132)).alloc (.cells #[.int .i64 0] 3))):=((Below.refl _ _).alloc (Nat.le_refl _) _).alloc (by simp) _;clear hg tH
 go_enter_defers func190,ntmps190
 go_wp2_with (go_at_call 230;refine(hK.out _ Ky.out).mono ?_;rintro e w1 ⟨rfl,bz⟩;obtain⟨zk,KO⟩:=cZ bz);exact qW _ rfl rfl bz
theorem zO(rb:Nat)(s:ByteArray)(w:World)(mb:Nat)(sz mx:Int)(us:List Int)(hz:0<=sz)(oF:s.size<=281474976710656)(hR:cW w rb mb sz mx 2 us)(nw:w.cell? ⟨rb,2,none⟩=some (.int .i64 2))(m:bg)(n:Int)(hg:cS sz mx us s=(m,n))(tH:m.wh=4):
  Calls prog 190 #[.pointer (some ⟨rb,0,none⟩),.string s] w fun e w'=>e=.returned (.tuple #[m.val,.int .i64 n])/\Below w.heap.size w w':=by
 have PG:∀(fn:Fn) (first cap:Array Value) (w:World),(Instr.makeFunc fn first cap).run prog w=.ok (.func fn first cap) w:=fun _ _ _ _=>rfl;have hK:Hid (∀W,Below w.heap.size w W->Calls prog 230 #[.pointer (some ⟨rb,0,none⟩),.string s] W fun e w'=>e=.panicked [{v:=GC n,recovered:=false}]/\(m=.closing/\Below W.heap.size W w')):=fun W hW=>ux (by rw[<-hg];exact sF rb mb sz mx 2 us s W hz oF (hR.later hW)) tH;have hrb:=aZ nw;have q0:¬rb=w.heap.size:=by omega
 have q1:¬rb=w.heap.size+1:=by omega
 have Ky:Hid (Below w.heap.size w ((w.alloc (.cells (aL 0 ⟨#[]⟩ 0 0 0 0 0 ⟨#[]⟩ 0) 132)).alloc (.cells #[.int .i64 0] 3))):=((Below.refl _ _).alloc (Nat.le_refl _) _).alloc (by simp) _;clear hg tH
 go_enter_defers func190,ntmps190
 go_wp2_with (go_at_call 230;refine(hK.out _ Ky.out).mono ?_;rintro e w1 ⟨rfl,dw,bz⟩;obtain⟨zk,KO⟩:=cZ bz);exact mL dw _ rfl rfl bz
theorem Ii(rb:Nat)(s:ByteArray)(w:World)(ph:Int)(nw:w.cell? ⟨rb,2,none⟩=some (.int .i64 ph))(h0:ph≠0)(h1:ph≠1)(h2:ph≠2):
  Calls prog 190 #[.pointer (some ⟨rb,0,none⟩),.string s] w fun e w'=>e=.returned (.tuple #[bg.zero.val,.int .i64 0])/\Below w.heap.size w w':=by
 have PG:∀(fn:Fn) (first cap:Array Value) (w:World),(Instr.makeFunc fn first cap).run prog w=.ok (.func fn first cap) w:=fun _ _ _ _=>rfl;have hrb:=aZ nw;have q0:¬rb=w.heap.size:=by omega
 have q1:¬rb=w.heap.size+1:=by omega
 have b0:(ph==0)=false:=by simpa using h0
 have b1:(ph==1)=false:=by simpa using h1
 have b2:(ph==2)=false:=by simpa using h2
 clear h0 h1 h2
 go_enter_defers func190,ntmps190
 go_wp2;refine leaves_cons (f:=226) (args:=#[.pointer (some ⟨w.heap.size,0,none⟩),.pointer (some ⟨w.heap.size+1,0,none⟩)]) (by simp) (by simp[go_sem]) ?_;refine(xB _ _ _).mono ?_;rintro e u' w'' ⟨rfl,rfl,rfl⟩;exact⟨_,vA (b:=w.heap.size) (bn:=w.heap.size+1) (m:=bg.zero) (n:=0) (by simp[cL,go_sem,bg.zero]) (by simp[go_sem]) _ rfl rfl,rfl,((Below.refl _ _).alloc (Nat.le_refl _) _).alloc (by simp) _⟩
theorem Ly(rb mb:Nat)(sz mx ph:Int)(us:List Int)(s:ByteArray)(w:World)(hz:0<=sz)(oF:s.size<=281474976710656)(hR:cW w rb mb sz mx ph us):
  Calls prog 190 #[.pointer (some ⟨rb,0,none⟩),.string s] w fun e w'=>e=.returned (.tuple #[(first sz mx ph us s).1.val,.int .i64 (first sz mx ph us s).2])/\Below w.heap.size w w':=by
 have hs:s.size<=maxLen:=by unfold maxLen;omega
 have nw:=hR.cell.2.2.1
 by_cases h0:ph=0
 ·subst h0;have e:first sz mx 0 us s=eW s:=by unfold first;simp
  rw[e]
  by_cases hw:(eW s).1.wh=4
  ·exact vn rb s w hs nw _ _ rfl hw
  ·exact vo rb s w hs nw _ _ rfl hw
 ·by_cases h1:ph=1
  ·subst h1;have e:first sz mx 1 us s=opt s:=by unfold first;simp
   rw[e]
   by_cases hw:(opt s).1.wh=4
   ·exact zM rb s w hs nw _ _ rfl hw
   ·exact zN rb s w hs nw _ _ rfl hw
  ·by_cases h2:ph=2
   ·subst h2;have e:first sz mx 2 us s=cS sz mx us s:=by unfold first;simp
    rw[e]
    by_cases hw:(cS sz mx us s).1.wh=4
    ·exact zO rb s w mb sz mx us hz oF hR nw _ _ rfl hw
    ·exact zP rb s w mb sz mx us hz oF hR nw _ _ rfl hw
   ·have e:first sz mx ph us s=(.zero,0):=by unfold first;simp[h0,h1,h2]
    rw[e];exact Ii rb s w ph nw h0 h1 h2
end
section
open Go.Proofs.Tryz
open Go.RowKit
attribute [local go_sem ↓] Go.wp_at_zero Go.wp_at_succ
attribute [local go_sem] au aj
def oo(w w':World)(rb mb:Nat):Prop:=∃row,w.grownBy w' row/\∀r,row=some r->r=rb\/r=mb
theorem Mz{w:World}{mb:Nat}{us:List Int}(h:Uses w mb us)(ck:Int)(zl:0<=ck/\ck<=65535)(hl:us.length<maxLen):
  ∃w',(Instr.mapUpdate 226 (.map (some mb)) (.int .i64 ck) (.agg #[])).run prog w=.ok () w'/\Uses w' mb (us++[ck])/\w.grownBy w' (some mb):=by
 obtain⟨w',hrun,hown,hg⟩:=h.update (Maps.int_keyed underlying3) underlying226 hl (key:=.int .i64 ck) (val:=.agg #[]) (kl:=.int .i64 ck) (d:=.agg []) (ps:=[]) (Maps.keyOf_int_mk underlying3 (by simp[Lit.wf,IntKind.min,IntKind.max,IntKind.signed,IntKind.bits];omega)) unitElem_mk;refine⟨w',hrun,?_,hg⟩;unfold Uses;rw[List.map_append,List.length_append,List.map_cons,List.map_nil,Maps.setOf_snoc];exact hown
theorem cW.phase{w:World}{rb mb:Nat}{sz mx ph:Int}{us:List Int}(h:cW w rb mb sz mx ph us)(p:Int):cW (w.setCell ⟨rb,2,none⟩ (.int .i64 p)) rb mb sz mx p us:=by
 have hne:mb≠rb:=fun e=>by obtain⟨es,clock,hb,_⟩:=h.uses;rw[e,h.box]at hb;cases hb
 refine⟨?_,h.uses.setCell hne _⟩;have hlt:=h.lt.1;have hb:=(Array.getElem?_eq_some_iff.1 h.box).2;simp only[World.setCell,Array.getElem?_modify];simp[h.box]
theorem cW.frozen{w:World}{rb mb:Nat}{sz mx ph:Int}{us:List Int}(h:cW w rb mb sz mx ph us):w.frozen? ⟨rb,2,none⟩=false:=by simp[World.frozen?,h.box]
theorem cW.drew{w:World}{rb mb:Nat}{sz mx ph:Int}{us:List Int}(h:cW w rb mb sz mx ph us):cW w.drew rb mb sz mx ph us:=⟨h.box,h.uses⟩
theorem DS{R:Ending->World->Prop}{a:Act}{w:World}(hd:a.defers=[])(h:R (.returned (.tuple #[])) w):bodyPost prog f231 R Exit.normal a w:=
 ⟨hd,.tuple #[],by simp[results,results231],h⟩
theorem wN(rb mb:Nat)(sz mx ph:Int)(us:List Int)(m:bg)(w:World)(hR:cW w rb mb sz mx ph us)(zl:0<=m.ck/\m.ck<=65535)(hl:us.length<maxLen):
  Calls prog 231 #[.pointer (some ⟨rb,0,none⟩),m.val] w fun e w'=>e=.returned (.tuple #[])/\cW w' rb mb sz mx (if m.er=0/\m.kd=5 then 3 else ph) (if m.er=0/\m.kd≠5 then us++[m.ck]else us)/\oo w w' rb mb:=by
 obtain⟨wh,nm,kd,fl,ck,of,ln,dt,er⟩:=m;dsimp only at zl⊢;obtain⟨g0,g1,g2,g3⟩:=hR.cell;have hrb:=hR.lt.1;have q0:¬rb=w.heap.size:=by omega
 have f2:=hR.frozen;have HR:Hid (cW w rb mb sz mx ph us):=hR;clear hR;generalize hP:(if er=0/\kd=5 then 3 else ph)=P;generalize hU:(if er=0/\kd≠5 then us++[ck]else us)=U
 by_cases he:er=0
 ·subst he
  by_cases hk:kd=5
  ·subst hk;obtain rfl:3=P:=by simpa using hP
   obtain rfl:us=U:=by simpa using hU
   clear hP hU;go_enter func231,ntmps231;go_wp2;refine DS rfl ⟨rfl,?_,some rb,(jN w rb 2 _).trans (World.grownBy_alloc _ _ (some rb)),fun r e=>.inl (by cases e;rfl)⟩;exact(HR.out.phase 3).kept (World.grownBy_alloc _ _ none) (by simp) (by simp)
  ·obtain rfl:ph=P:=by simpa[hk]using hP
   obtain rfl:us++[ck]=U:=by simpa[hk]using hU
   clear hP hU;have kb:(kd==5)=false:=by simpa using hk
   have QY:cW ((w.alloc (.cells (aL wh nm kd fl ck of ln dt 0) 132)).drew) rb mb sz mx ph us:=(HR.out.kept (World.grownBy_alloc _ _ none) (by simp) (by simp)).drew;obtain⟨w2,hrun,hu2,hg2⟩:=Mz QY.uses ck zl hl
   have hne:some rb≠some mb:=fun e=>by obtain⟨es,clock,hb,_⟩:=QY.uses;cases e;rw[QY.box]at hb;cases hb
   have hdone:cW w2 rb mb sz mx ph (us++[ck]):=⟨(hg2.block _ QY.lt.1 hne).trans QY.box,hu2⟩;have Vs:oo w w2 rb mb:=⟨some mb,World.grownBy.trans (b:=(w.alloc (.cells (aL wh nm kd fl ck of ln dt 0) 132)).drew) ⟨rfl,rfl,rfl,by simp,fun k hk' _=>Below.heap_alloc _ _ _ hk'⟩ hg2,fun r e=>.inr (by cases e;rfl)⟩;have c3:=QY.cell.2.2.2;have hmb:=HR.out.lt.2;have UZ:w2.cell? ⟨w.heap.size,4,none⟩=some (.int .i64 ck):=(World.cell?_of_block (hg2.block _ (by simp) (fun e=>absurd hmb (by cases e;exact Nat.lt_irrefl _)))).trans (by simp[go_sem]);have HKP:Hid (w2.cell? ⟨rb,3,none⟩=some (.map (some mb))/\w2.cell? ⟨w.heap.size,4,none⟩=some (.int .i64 ck)):=⟨hdone.cell.2.2.2,UZ⟩;clear UZ;have HK:Hid (¬kd=5):=hk;clear hk QY hu2 hg2 hne;go_enter func231,ntmps231
   go_upto_region 1 with fail
   refine wp_region_noPanic ?_;refine wp_region_held_drew (S:=fun w'=>w'.cell? ⟨rb,3,none⟩=some (.map (some mb))/\w'.cell? ⟨w.heap.size,4,none⟩=some (.int .i64 ck)) (by kernel_rfl) ⟨c3,by simp[go_sem]⟩ ?_;intro hHeld;refine tk 0 ?_;refine tk 1 ?_;refine tk 2 ?_;refine tk 3 ?_;refine tk 4 ?_;refine tk 5 ?_;refine tk 6 ?_;refine rH 7 fun K hK=>?_;go_simp;refine hK.out _ _ (HKP.out) (fun hH7=>?_);clear hK K;refine wpAnyH_done (by kernel_rfl) ?_ _
   (refine NoPanic.normal ?_;go_wp2_with fail;exact DS rfl ⟨rfl,hdone,Vs⟩)
 ·obtain rfl:ph=P:=by simpa[he]using hP
  obtain rfl:us=U:=by simpa[he]using hU
  have eb:(er !=0)=true:=by simpa using he
  clear he hP hU;go_enter func231,ntmps231;go_wp2;refine DS rfl ⟨rfl,?_,none,World.grownBy_alloc _ _ none,fun r e=>by cases e⟩;exact HR.out.kept (World.grownBy_alloc _ _ none) (by simp) (by simp)
theorem oA{R:Ending->World->Prop}{a:Act}{w:World}(hd:a.defers=[])(h:R (.returned (.tuple #[])) w):bodyPost prog f191 R Exit.normal a w:=
 ⟨hd,.tuple #[],by simp[results,results191],h⟩
abbrev rG(us:List Int)(m:bg):List Int:=if accepted m then us++[m.ck]else us
theorem DQ(rb mb:Nat)(sz mx ph:Int)(us:List Int)(m:bg)(w:World)(hR:cW w rb mb sz mx ph us)(zl:0<=m.ck/\m.ck<=65535)(hl:us.length<maxLen):
  Calls prog 191 #[.pointer (some ⟨rb,0,none⟩),m.val] w fun e w'=>e=.returned (.tuple #[])/\cW w' rb mb sz mx (after ph m) (rG us m)/\oo w w' rb mb:=by
 obtain⟨wh,nm,kd,fl,ck,of,ln,dt,er⟩:=m;dsimp only at zl;obtain⟨g0,g1,g2,g3⟩:=hR.cell;have hrb:=hR.lt.1;have q0:¬rb=w.heap.size:=by omega
 have f2:=hR.frozen;have HR:Hid (cW w rb mb sz mx ph us):=hR;clear hR;generalize hP:after ph ⟨wh,nm,kd,fl,ck,of,ln,dt,er⟩=P;generalize hU:rG us ⟨wh,nm,kd,fl,ck,of,ln,dt,er⟩=U;have HP:Hid (after ph ⟨wh,nm,kd,fl,ck,of,ln,dt,er⟩=P):=hP;have HU:Hid (rG us ⟨wh,nm,kd,fl,ck,of,ln,dt,er⟩=U):=hU;clear hP hU
 have stay:Hid (P=ph->U=us->cW (w.alloc (.cells (aL wh nm kd fl ck of ln dt er) 132)) rb mb sz mx P U/\oo w (w.alloc (.cells (aL wh nm kd fl ck of ln dt er) 132)) rb mb):=fun e1 e2=>by rw[e1,e2];exact⟨HR.out.kept (World.grownBy_alloc _ _ none) (by simp) (by simp),none,World.grownBy_alloc _ _ none,fun r e=>by cases e⟩
 have move:Hid (∀p,P=p->U=us->cW ((w.setCell ⟨rb,2,none⟩ (.int .i64 p)).alloc (.cells (aL wh nm kd fl ck of ln dt er) 132)) rb mb sz mx P U/\oo w ((w.setCell ⟨rb,2,none⟩ (.int .i64 p)).alloc (.cells (aL wh nm kd fl ck of ln dt er) 132)) rb mb):=fun p e1 e2=>by rw[e1,e2];exact⟨(HR.out.phase p).kept (World.grownBy_alloc _ _ none) (by simp) (by simp),some rb,(jN w rb 2 _).trans (World.grownBy_alloc _ _ (some rb)),fun r e=>.inl (by cases e;rfl)⟩
 by_cases h3:wh=3
 ·subst h3
  have hq:Hid (Calls prog 231 #[.pointer (some ⟨rb,0,none⟩),.agg (aL 3 nm kd fl ck of ln dt er)] (w.alloc (.cells (aL 3 nm kd fl ck of ln dt er) 132)) fun e w'=>e=.returned (.tuple #[])/\cW w' rb mb sz mx P U/\oo w w' rb mb):=by
   refine(wN rb mb sz mx ph us ⟨3,nm,kd,fl,ck,of,ln,dt,er⟩ _ (HR.out.kept (World.grownBy_alloc _ _ none) (by simp) (by simp)) zl hl).mono ?_;rintro e w' ⟨he,hr,row,hg,hrow⟩
   have e1:(if er=0/\kd=5 then 3 else ph)=P:=by rw[<-HP.out];simp[after,and_comm]
   have e2:(if er=0/\kd≠5 then us++[ck]else us)=U:=by rw[<-HU.out];simp[rG,accepted]
   dsimp only at hr;rw[e1,e2]at hr;exact⟨he,hr,row,(World.grownBy_alloc _ _ row).trans hg,hrow⟩
  clear stay move;go_enter func191,ntmps191;go_wp2_with (go_at_call 231;refine hq.out.mono ?_;rintro e w1 ⟨rfl,NT,PN⟩);exact oA rfl ⟨rfl,NT,PN⟩
 ·have b3:(wh==3)=false:=by simpa using h3
  have hU:Hid (U=us):=by show U=us;rw[<-HU.out];simp[rG,accepted,h3]
  have H3:Hid (¬wh=3):=h3;clear h3
  by_cases h1:wh=1
  ·subst h1;cases hn:nm.toList==[97]with
   |true=>
    have hP:Hid (P=1):=by show P=1;rw[<-HP.out];simp only[after,hn];simp
    go_enter func191,ntmps191;go_wp2_with fail;exact oA rfl ⟨rfl,move.out 1 hP.out hU.out⟩
   |false=>
    have hP:Hid (P=ph):=by show P=ph;rw[<-HP.out];simp only[after,hn];simp
    go_enter func191,ntmps191;go_wp2_with fail;exact oA rfl ⟨rfl,stay.out hP.out hU.out⟩
  ·have b1:(wh==1)=false:=by simpa using h1
   have H1:Hid (¬wh=1):=h1;clear h1
   by_cases h2:wh=2
   ·subst h2;cases hn:nm.toList==[103]with
    |true=>
     have hP:Hid (P=2):=by show P=2;rw[<-HP.out];simp only[after,hn];simp
     go_enter func191,ntmps191;go_wp2_with fail;exact oA rfl ⟨rfl,move.out 2 hP.out hU.out⟩
    |false=>
     have hP:Hid (P=ph):=by show P=ph;rw[<-HP.out];simp only[after,hn];simp
     go_enter func191,ntmps191;go_wp2_with fail;exact oA rfl ⟨rfl,stay.out hP.out hU.out⟩
   ·have b2:(wh==2)=false:=by simpa using h2
    have H2:Hid (¬wh=2):=h2;clear h2
    by_cases h4:wh=4
    ·subst h4;have hP:Hid (P=4):=by show P=4;rw[<-HP.out];simp[after]
     go_enter func191,ntmps191;go_wp2_with fail;exact oA rfl ⟨rfl,move.out 4 hP.out hU.out⟩
    ·have b4:(wh==4)=false:=by simpa using h4
     have hP:Hid (P=ph):=by show P=ph;rw[<-HP.out];simp[after,H1.out,H2.out,H3.out,h4]
     clear h4;go_enter func191,ntmps191;go_wp2_with fail;exact oA rfl ⟨rfl,stay.out hP.out hU.out⟩
end
section
open Go.RowKit
def Bears{β:Type}(R:Nat->Prop)(J:β->World->Prop):Prop:=
 ∀s W W' row,J s W->W.grownBy W' row->(∀r,row=some r->R r)->J s W'
theorem Bears.put{β:Type}{R:Nat->Prop}{J:β->World->Prop}(h:Bears R J){s:β}{W:World}(hs:J s W){l:Nat}(hl:R l)(o:Obj):J s (W.putObj l o):=
 h s W _ (some l) hs (grownBy_putObj' W l o) (fun r e=>by cases e;exact hl)
theorem Bears.new{β:Type}{R:Nat->Prop}{J:β->World->Prop}(h:Bears R J){s:β}{W:World}(hs:J s W)(o:Obj):J s (W.alloc o):=
 h s W _ none hs (World.grownBy_alloc W o none) (fun r e=>by cases e)
def Iter{α:Type}(F:Fence)(n:Nat)(P:Program)(g:Nat)(lb:Array Value)(encs:α->Array Value)(R:Nat->Prop)(Kp:World->World->Prop)(V:List α->Prop)(S Sp:List α->World->Prop)(W:World):Prop:=
 ∀(l:Nat) (J Jx:List α->World->Prop),Bears R J->Bears R Jx->
  (∀pre x W1,J pre W1->V (pre++[x])->YieldAt F (n-1) P l (encs x) W1 fun e W'=>
   (e=.returned (.bool true)/\J (pre++[x]) W'/\Kp W1 W')\/(e=.returned (.bool false)/\Jx (pre++[x]) W'/\Kp W1 W'))->
  J [] W->
  CallsIn F n P g (#[.func (.yield l) #[] #[]]++lb) W fun e W'=>(∃v,e=.returned v)/\((∃xs,S xs W'/\J xs W')\/(∃pre,Sp pre W'/\Jx pre W'))
def TK(B:Nat)(W W':World):Prop:=W'.heap[B]? =W.heap[B]? /\W'.heap[B+1]? =W.heap[B+1]?
def roundEnd{α:Type}(B:Nat)(Kp:World->World->Prop)(I:List α->World->Prop)(Ix:List α->World->Prop)(xs:List α)(W:World):Exit->Act->World->Prop
 |.normal,_,W'=>TK B W W'/\Kp W W'/\I xs W'
 |.ret,_,W'=>TK B W W'/\Kp W W'/\Ix xs W'
 |_,_,_=>False
theorem nC{F:Fence}{n:Nat}{P:Program}{α:Type}{g:Operand}{ps:Array Tmp}{assign body:Code}{Q:Exit->Act->World->Prop}{a:Act}{w:World}
  (hro:F.round=none) (h1:1<=n) {gf:Nat} {lb:Array Value} (hg:a.eval g=.func (.func gf) #[] lb) (hFg:F.fn gf) (eg:∀args w,(callFunc gf args).run P w=.ok (.enter gf args) w)
  {encs:α->Array Value} (hps:∀x,(encs x).size=ps.size) {R:Nat->Prop} {Kp:World->World->Prop} {V:List α->Prop} {S Sp:List α->World->Prop}
  (hseq:∀W,w.grownBy W none->Iter F (n-1) P gf lb encs R Kp V S Sp W) (hR:∀r,R r->r<w.heap.size)
  (hKt:∀{A B C:World},Kp A B->Kp B C->Kp A C) (hKb:∀(W:World) (o:Obj),Kp W (W.putObj (w.heap.size+1) o))
  (hS:Bears (fun r=>w.heap.size<=r) S) (YN:Bears (fun r=>w.heap.size<=r) Sp)
  (I Ix:List α->World->Prop) (hI:Bears (fun r=>R r\/r=w.heap.size+1) I) (hIx:Bears (fun r=>R r\/r=w.heap.size+1) Ix) (h0:I [] w) (Ax:α->Act->World->Prop) (hAx:∀x,Bears (fun r=>R r\/r=w.heap.size+1) (Ax x))
  (hassign:∀(l:Nat) (pre:List α) (x:α) (W:World) (K:Act->World->Prop),I pre W->V (pre++[x])->w.heap.size+2<=W.heap.size->(∀a' W',TK w.heap.size W W'->Kp W W'->I pre W'->Ax x a' W'->K a' W')->
   assign.wpIn (F.inRound l) (n-1-1) P (Exit.then K (fun _ _ _=>False)) {tmps:=(ps.zip (encs x)).foldl (fun t (p,v)=>t.setIfInBounds p v) a.tmps,defers:=[]} W)
  (hbody:∀(l:Nat) (pre:List α) (x:α) (a':Act) (W:World),I pre W->Ax x a' W->V (pre++[x])->w.heap.size+2<=W.heap.size->body.wpIn (F.inRound l) (n-1-1) P (roundEnd w.heap.size Kp I Ix (pre++[x]) W) a' W)
  (hdone:∀(xs:List α) (W:World),S xs W->I xs W->W.heap[w.heap.size]? =some (.deferred (some []))->Q .normal {a with defers:={target:=.collected w.heap.size,args:=#[]}::a.defers} W)
  (hstop:∀(pre:List α) (W:World),Sp pre W->Ix pre W->W.heap[w.heap.size]? =some (.deferred (some []))->Code.ret.wpIn F n P Q {a with defers:={target:=.collected w.heap.size,args:=#[]}::a.defers} W):
  (Code.rangeFunc g ps assign body).wpIn F n P Q a w:=by
 refine wpIn_rangeFunc fun fn hfn=>?_;rw[hro]
 let rc:LoopState->Option Code->Obj:=fun st pe=>.loop {state:=st,pending:=pe,fn,tmps:=a.tmps,params:=ps,assign,body,defers:=w.heap.size}
 have gr:w.grownBy ((w.alloc (.deferred (some []))).alloc (rc .ready none)) none:=
  ⟨rfl,rfl,rfl,by simp;omega,fun k hk _=>(Below.heap_alloc _ _ _ (by simp;omega)).trans (Below.heap_alloc _ _ _ hk)⟩
 have Vm:((w.alloc (.deferred (some []))).alloc (rc .ready none)).heap[w.heap.size+1]? =some (rc .ready none):=by
  have:=World.alloc_heap_new (w.alloc (.deferred (some []))) (rc .ready none)
  rwa [World.size_alloc]at this
 have US:((w.alloc (.deferred (some []))).alloc (rc .ready none)).heap[w.heap.size]? =some (.deferred (some [])):=
  (Below.heap_alloc _ _ _ (by simp)).trans (World.alloc_heap_new w _)
 have kept:∀{A B:World} {row:Option Nat} {k:Nat} {o:Obj},A.grownBy B row->(∀r,row=some r->R r)->w.heap.size<=k->A.heap[k]? =some o->B.heap[k]? =some o:=fun Hp hr hk ho=>
  (Hp.block _ (Array.getElem?_eq_some_iff.1 ho).1 (fun e=>by have:=hR _ (hr _ e.symm);omega)).trans ho
 refine⟨w.heap.size+1,[{target:=.collected w.heap.size,args:=#[]}],(w.alloc (.deferred (some []))).alloc (rc .ready none),{target:=.fn (.func gf) lb,args:=#[.func (.yield (w.heap.size+1)) #[] #[]]},(w.alloc (.deferred (some []))).alloc (rc .ready none),gf,
  #[.func (.yield (w.heap.size+1)) #[] #[]]++lb,(w.alloc (.deferred (some []))).alloc (rc .ready none),run_enterLoop_outer _ _ _ _ _,?_,?_,?_,fun _=>h1,?_⟩
 ·simp only[resolve,hg];simp[go_sem]
 ·intro f' hf';simp[Target.leads]at hf';subst hf';exact hFg
 ·simp[invoke,go_sem,eg]
 ·refine(hseq _ gr (w.heap.size+1)
   (fun pre W=>I pre W/\W.heap[w.heap.size+1]? =some (rc .ready none)/\W.heap[w.heap.size]? =some (.deferred (some [])))
   (fun pre W=>Ix pre W/\W.heap[w.heap.size+1]? =some (rc .done (some .ret))/\W.heap[w.heap.size]? =some (.deferred (some [])))
   (fun s A B row hs Hp hr=>⟨hI s A B row hs.1 Hp (fun r e=>.inl (hr r e)),kept Hp hr (by omega) hs.2.1,kept Hp hr (Nat.le_refl _) hs.2.2⟩)
   (fun s A B row hs Hp hr=>⟨hIx s A B row hs.1 Hp (fun r e=>.inl (hr r e)),kept Hp hr (by omega) hs.2.1,kept Hp hr (Nat.le_refl _) hs.2.2⟩)
   ?_ ⟨hI.new (hI.new h0 _) _,Vm,US⟩).mono ?_
  ·rintro pre x W ⟨hi,hl,hk⟩ hv;have hlt:w.heap.size+1<W.heap.size:=(Array.getElem?_eq_some_iff.1 hl).1;refine⟨fn,_,assign,body,run_yield hl (hps x),roundIn_of_wpIn hfn (hassign _ pre x W _ hi hv (by omega) fun a' W0 Xo Vb hi0 YR=>?_)⟩;have hl0:=Xo.2.trans hl;have Zh:w.heap.size+1<W0.heap.size:=(Array.getElem?_eq_some_iff.1 hl0).1;have Dg:=Xo.1.trans hk;refine⟨_,run_beginRound hl0 rfl,?_⟩;have hl2:(W0.putObj (w.heap.size+1) (rc .busy none)).heap[w.heap.size+1]? =some (rc .busy none):=World.putObj_heap_same Zh;have hk2:(W0.putObj (w.heap.size+1) (rc .busy none)).heap[w.heap.size]? =some (.deferred (some [])):=(World.putObj_heap_other (by omega)).trans Dg;refine wpIn_mono (hbody _ pre x a' (W0.putObj (w.heap.size+1) (rc .busy none)) (hI.put hi0 (.inr rfl) _) ((hAx x).put YR (.inr rfl) _) hv (by simp;omega)) ?_;rintro e a3 W3 hp;cases e with
   |normal=>
    obtain⟨ht,hkp,Zd⟩:=hp;have Vd:=ht.2.trans hl2;refine⟨_,_,run_endRound none Vd,.inl ⟨rfl,⟨hI.put Zd (.inr rfl) _,World.putObj_heap_same (Array.getElem?_eq_some_iff.1 Vd).1,(World.putObj_heap_other (by omega)).trans (ht.1.trans hk2)⟩,hKt (hKt (hKt Vb (hKb _ _)) hkp) (hKb _ _)⟩⟩
   |ret=>
    obtain⟨ht,hkp,Zd⟩:=hp;have Vd:=ht.2.trans hl2;refine⟨_,_,run_endRound (some .ret) Vd,.inr ⟨rfl,⟨hIx.put Zd (.inr rfl) _,World.putObj_heap_same (Array.getElem?_eq_some_iff.1 Vd).1,(World.putObj_heap_other (by omega)).trans (ht.1.trans hk2)⟩,hKt (hKt (hKt Vb (hKb _ _)) hkp) (hKb _ _)⟩⟩
   |exit id=>exact hp.elim
   |goto t=>exact hp.elim
   |panic ch=>exact hp.elim
   |outgrown=>exact hp.elim
  ·rintro e W2 ⟨⟨v,rfl⟩,(⟨xs,hs,hi,hl,hk⟩|⟨pre,hs,hi,hl,hk⟩)⟩
   ·exact⟨none,_,run_endLoop hl (by simp),hdone xs _ (hS.put hs (Nat.le_succ _) _) (hI.put hi (.inr rfl) _) ((World.putObj_heap_other (by omega)).trans hk)⟩
   ·exact⟨some .ret,_,run_endLoop hl (by simp),hstop pre _ (YN.put hs (Nat.le_succ _) _) (hIx.put hi (.inr rfl) _) ((World.putObj_heap_other (by omega)).trans hk)⟩
end
end Go.Proofs.YtpobhljcainmdaaGreat
