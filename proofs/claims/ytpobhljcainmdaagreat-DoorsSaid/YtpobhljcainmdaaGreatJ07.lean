/- Proved here: a part of what Doors keeps (Wire9, Cn3, Cn4, Dm2). -/
import Derived.Conc.EventLaws
import Derived.Lib.AppendStr
import Derived.Test.YtpobhljcainmdaaGreatJ01
import Derived.Test.YtpobhljcainmdaaGreatJ02
import Derived.Test.YtpobhljcainmdaaGreatJ06
set_option maxRecDepth 100000
set_option maxHeartbeats 8000000
set_option linter.all false
namespace Go.Proofs.YtpobhljcainmdaaGreat
section
open Go.Proofs.Tryz
open Go.RowKit
attribute [local go_sem ↓] Go.wp_at_zero Go.wp_at_succ
attribute [local go_sem] au aj
theorem nU(sz cl qu mx qn rt bu wk ou ph:Int)(w:World):
  Calls prog 115 #[.agg (dr sz cl qu mx qn rt bu wk ou),.int .i64 ph] w fun e w'=>e=.returned (.pointer (some ⟨w.heap.size+2,0,none⟩))/\
   w'=((w.alloc (.cells (dr sz cl qu mx qn rt bu wk ou) 35)).alloc (.map #[] 0)).alloc (.cells #[.int .i64 sz,.int .i64 mx,.int .i64 ph,.map (some (w.heap.size+1))] 228):=by
 have hmm:=@run_makeMap prog;go_enter func115,ntmps115;go_wp2;go_ret;exact⟨rfl,rfl⟩
theorem zL(rb:Nat)(s:ByteArray)(w:World):
  Calls prog 152 #[.pointer (some ⟨rb,0,none⟩),.string s] w fun e w'=>e=.returned (.func (.func 189) #[] #[.pointer (some ⟨w.heap.size,0,none⟩),.pointer (some ⟨w.heap.size+1,0,none⟩)])/\
   w'=(w.alloc (.cells #[.pointer (some ⟨rb,0,none⟩)] 164)).alloc (.cells #[.string s] 9):=by
 have PG:∀(fn:Fn) (first cap:Array Value) (w:World),(Instr.makeFunc fn first cap).run prog w=.ok (.func fn first cap) w:=fun _ _ _ _=>rfl;go_enter func152,ntmps152;go_wp2;go_ret;exact⟨rfl,rfl⟩
structure iO(W:World)(rb mb cb sb:Nat)(sz mx:Int)(s:ByteArray)(st:St):Prop where
 rd:cW W rb mb sz mx st.ph st.used
 cp:W.heap[cb]? =some (.cells #[.pointer (some ⟨rb,0,none⟩)] 164 (0,0))
 tx:W.heap[sb]? =some (.cells #[.string (s.extract st.pos s.size)] 9 (0,0))
 apart:rb≠sb/\mb≠sb/\cb≠sb/\cb≠rb/\cb≠mb
abbrev TD(rb mb sb:Nat)(r:Nat):Prop:=r=rb\/r=mb\/r=sb
def Qi(rb mb cb sb:Nat)(A B:World):Prop:=B.heap[rb]? =A.heap[rb]? /\B.heap[mb]? =A.heap[mb]? /\B.heap[cb]? =A.heap[cb]? /\B.heap[sb]? =A.heap[sb]?
theorem Uses.block{w w':World}{mb:Nat}{us:List Int}(h:Uses w mb us)(hb:w'.heap[mb]? =w.heap[mb]?):Uses w' mb us:=by obtain⟨es,clock,he,r⟩:=h;exact⟨es,clock,hb.trans he,r⟩
theorem iO.kept{A B:World}{rb mb cb sb:Nat}{sz mx:Int}{s:ByteArray}{st:St}(h:iO A rb mb cb sb sz mx s st)(k:Qi rb mb cb sb A B):iO B rb mb cb sb sz mx s st:=
 ⟨⟨k.1.trans h.rd.box,h.rd.uses.block k.2.1⟩,k.2.2.1.trans h.cp,k.2.2.2.trans h.tx,h.apart⟩
theorem iO.later{A B:World}{rb mb cb sb:Nat}{sz mx:Int}{s:ByteArray}{st:St}(h:iO A rb mb cb sb sz mx s st)(hb:A.grownBy B none):iO B rb mb cb sb sz mx s st:=
 h.kept ⟨hb.block _ h.rd.lt.1 (by simp),hb.block _ h.rd.lt.2 (by simp),hb.block _ (Array.getElem?_eq_some_iff.1 h.cp).1 (by simp),hb.block _ (Array.getElem?_eq_some_iff.1 h.tx).1 (by simp)⟩
theorem yO(s:ByteArray)(p n:Nat)(_h:p+n<=s.size):(s.extract p s.size).extract n (s.extract p s.size).size=s.extract (p+n) s.size:=by
 apply ByteArray.ext;simp[ByteArray.data_extract,ByteArray.size_extract]
 congr 1
 omega
theorem iO.step{A B:World}{rb mb cb sb:Nat}{sz mx:Int}{s:ByteArray}{st:St}{m:bg}{n:Int}(h:iO A rb mb cb sb sz mx s st)(hr:cW B rb mb sz mx (after st.ph m) (rG st.used m))(ht:oo A B rb mb):
  iO (B.setCell ⟨sb,0,none⟩ (.string (s.extract (st.pos+n.toNat) s.size))) rb mb cb sb sz mx s (st.step (m,n)):=by
 obtain⟨row,hg,hrow⟩:=ht;obtain⟨a1,a2,a3,a4,a5⟩:=h.apart;have PC:B.heap[cb]? =_:=(hg.block cb (Array.getElem?_eq_some_iff.1 h.cp).1 (fun e=>(hrow _ e.symm).elim a4 a5)).trans h.cp;have To:B.heap[sb]? =_:=(hg.block sb (Array.getElem?_eq_some_iff.1 h.tx).1 (fun e=>(hrow _ e.symm).elim (fun e=>a1 e.symm) (fun e=>a2 e.symm))).trans h.tx;refine⟨⟨?_,?_⟩,?_,?_,h.apart⟩
 ·rw[Below.heap_setCell _ _ _ _ (by exact a1)];exact hr.box
 ·exact Uses.block hr.uses (Below.heap_setCell _ _ _ _ (by exact a2))
 ·rw[Below.heap_setCell _ _ _ _ (by exact a3)];exact PC
 ·simp only[World.setCell,Array.getElem?_modify,To];simp[St.step]
theorem Kq(sz mx ph:Int)(us:List Int)(s:ByteArray):0<=(first sz mx ph us s).1.ck/\(first sz mx ph us s).1.ck<=65535:=by
 have g:∀f i,(aI s f i).1.ck=0:=fun f=>by
  induction f with
  |zero=>intro i;unfold aI;split<;>rfl
  |succ f ih=>intro i;unfold aI;split;rfl;split;exact ih _;rfl
 have r3:=cj s 3;unfold first
 split
 ·rw[eW,g];simp
 ·split
  ·unfold opt;repeat' split
   all_goals simp[bg.zero,bg.closing]
  ·split
   ·unfold cS;repeat' split
    all_goals (first|exact r3|simp[bg.zero,bg.closing])
   ·simp[bg.zero]
theorem LY(st:St)(xs:List (bg×Int)):(st.run xs).used.length<=st.used.length+xs.length:=by
 induction xs generalizing st with
 |nil=>simp[St.run]
 |cons x xs ih=>
  have:=ih (st.step x)
  have e:(st.step x).used.length<=st.used.length+1:=by simp only[St.step];split<;>simp
  simp only[St.run,List.foldl_cons,List.length_cons]at this⊢;omega
end
section
open Go.Proofs.Tryz
open Go.RowKit Go.Conc
attribute [local go_sem ↓] Go.wp_at_zero Go.wp_at_succ
attribute [local go_sem] au aj
structure aF(X:Nat->Prop)(w w':World):Prop where
 os:w'.os=w.os
 size:w.heap.size<=w'.heap.size
 block:∀k,k<w.heap.size->¬X k->w'.heap[k]? =w.heap[k]?
theorem aF.refl(X:Nat->Prop)(w:World):aF X w w:=⟨rfl,Nat.le_refl _,fun _ _ _=>rfl⟩
theorem aF.trans{X:Nat->Prop}{a b c:World}(h:aF X a b)(k:aF X b c):aF X a c:=
 ⟨k.os.trans h.os,Nat.le_trans h.size k.size,fun i hi hx=>(k.block i (Nat.lt_of_lt_of_le hi h.size) hx).trans (h.block i hi hx)⟩
theorem aF.mono{X Y:Nat->Prop}{a b:World}(h:aF X a b)(hxy:∀k,k<a.heap.size->X k->Y k):aF Y a b:=⟨h.os,h.size,fun i hi hy=>h.block i hi fun hx=>hy (hxy i hi hx)⟩
theorem aF.below{X:Nat->Prop}{w w':World}(h:Below w.heap.size w w'):aF X w w':=⟨h.os,h.size,fun k hk _=>h.block k hk⟩
theorem aF.set{X:Nat->Prop}{a w:World}(h:aF X a w){p:Addr}(hp:X p.block)(v:Value):aF X a (w.setCell p v):=
 ⟨h.os,by simpa using h.size,fun k hk hx=>(Below.heap_setCell w p v k (fun e=>hx (e▸hp))).trans (h.block k hk hx)⟩
abbrev bC(w:World)(c:Nat)(no wt sz cl qu mx qn rt bu wk ou:Int)(rb:Nat)(s:ByteArray)(out:Value)(tok de:Int)(ch:Nat):Prop:=
 w.heap[c]? =some (.cells (Nl no wt sz cl qu mx qn rt bu wk ou rb s out tok de ch) 168 (0,0))
theorem aa{w:World}{b T:Nat}{x:Array Value}(h:w.heap[b]? =some (.cells x T (0,0))){i:Nat}{v:Value}(hv:x[i]? =some v):w.cell? ⟨b,i,none⟩=some v:=by simp[World.cell?,h,hv]
theorem aG{w:World}{b T:Nat}{x:Array Value}(h:w.heap[b]? =some (.cells x T (0,0)))(i:Nat):w.frozen? ⟨b,i,none⟩=false:=by simp[World.frozen?,h]
theorem aX{w:World}{b T:Nat}{x:Array Value}(h:w.heap[b]? =some (.cells x T (0,0)))(i:Nat)(v:Value):(w.setCell ⟨b,i,none⟩ v).heap[b]? =some (.cells (x.setIfInBounds i v) T (0,0)):=by simp[World.setCell,Array.getElem?_modify,h]
theorem aS{w:World}{b k:Nat}{o:Option Obj}(h:w.heap[k]? =o)(hne:k≠b)(i:Nat)(v:Value):(w.setCell ⟨b,i,none⟩ v).heap[k]? =o:=
 (Below.heap_setCell w ⟨b,i,none⟩ v k hne).trans h
theorem cw{P:Program}{fn:Func}{R:Ending->World->Prop}{a:Act}{w:World}(hr:fn.results=#[])(hd:a.defers=[])(h:R (.returned (.tuple #[])) w):bodyPost P fn R Exit.normal a w:=
 ⟨hd,.tuple #[],by simp[results,hr],h⟩
theorem ur(c ch rb:Nat)(no wt sz cl qu mx qn rt bu wk ou tok de:Int)(s:ByteArray)(out:Value)(w:World)(hB:bC w c no wt sz cl qu mx qn rt bu wk ou rb s out tok de ch)(hc:w.heap[ch]? =some (.chan 0 #[] false 0 0 false)):
  Calls prog 75 #[.pointer (some ⟨c,0,none⟩)] w fun e w'=>e=.returned (.tuple #[])/\bC w' c no wt sz cl qu mx qn rt bu wk ou rb ⟨#[]⟩ (.slice none 0 0) tok de ch/\w'.heap[ch]? =some (.chan 0 #[] true 0 0 false)/\aF (fun b=>b=c\/b=ch) w w':=by
 have Yv:w.cell? ⟨c,20,none⟩=some (.chan (some ch)):=aa hB rfl
 have hne:c≠ch:=fun e=>by subst e;exact absurd (hB.symm.trans hc) (by simp)
 have dw:=run_close_open (P:=prog) (w:=w) #[166] 0 hc;obtain⟨W,hW⟩:∃W:World,W={w with heap:=w.heap.setIfInBounds ch (.chan 0 #[] true 0 0 false)}:=⟨_,rfl⟩;rw[<-hW]at dw
 have oX:bC W c no wt sz cl qu mx qn rt bu wk ou rb s out tok de ch:=by rw[hW];show(w.heap.setIfInBounds ch _)[c]? =_;rw[Array.getElem?_setIfInBounds_ne (Ne.symm hne)];exact hB
 have hC1:W.heap[ch]? =some (.chan 0 #[] true 0 0 false):=by rw[hW];have:=(Array.getElem?_eq_some_iff.1 hc).1;simp[this]
 have hT:aF (fun b=>b=c\/b=ch) w W:=by rw[hW];exact⟨rfl,by simp,fun k _ hk=>Array.getElem?_setIfInBounds_ne (fun e=>hk (.inr e.symm))⟩
 have HB:Hid (bC W c no wt sz cl qu mx qn rt bu wk ou rb s out tok de ch/\W.heap[ch]? =some (.chan 0 #[] true 0 0 false)/\aF (fun b=>b=c\/b=ch) w W):=⟨oX,hC1,hT⟩;have h12:W.cell? ⟨c,12,none⟩=some (.string s):=aa oX rfl;have h13:W.cell? ⟨c,13,none⟩=some (.slice none 0 0):=aa oX rfl;have Yt:W.cell? ⟨c,16,none⟩=some out:=aa oX rfl;have f12:=aG oX 12;have f13:=aG oX 13;have f16:=aG oX 16;have HN:Hid (c≠ch):=hne;clear hW oX hC1 hT hB hne;go_enter func75,ntmps75;go_wp2_with (go_at_call 116;refine(eG c ch _ Yv hc).mono ?_;rintro e w1 ⟨rfl,rfl⟩);obtain⟨g1,g2,g3⟩:=HB.out;refine cw rfl rfl ⟨rfl,?_,?_,((g3.set (p:=⟨c,12,none⟩) (.inl rfl) _).set (p:=⟨c,13,none⟩) (.inl rfl) _).set (p:=⟨c,16,none⟩) (.inl rfl) _⟩
 ·exact aX (aX (aX g1 12 _) 13 _) 16 _
 ·exact aS (aS (aS g2 (Ne.symm HN.out) _ _) (Ne.symm HN.out) _ _) (Ne.symm HN.out) _ _
end
section
open Go.Proofs.Tryz
open Go.RowKit Go.Conc
attribute [local go_sem ↓] Go.wp_at_zero Go.wp_at_succ
attribute [local go_sem] au aj
theorem wT(m:bg)(w:World)(hm:(m.wh==3)=false):
  Calls prog 193 #[.agg (aL m.wh m.nm m.kd m.fl m.ck m.of m.ln m.dt m.er)] w fun e w'=>e=.returned (.bool false)/\Below w.heap.size w w':=by
 obtain⟨wh,nm,kd,fl,ck,of,ln,dt,er⟩:=m;dsimp only at hm;go_enter func193,ntmps193;go_wp2;go_ret;exact⟨rfl,(Below.refl _ _).alloc (Nat.le_refl _) _⟩
theorem gY{P:Program}{o:Oper}{a:Act}{w w':World}{K:Act->World->Prop}{Q:Exit->Act->World->Prop}{y:Nat->Option Bool}{sl x:Operand}{t u:TypeId}{v v':Value}{s:ByteArray}(hw:Region.wanted o y=true)
  (ho:o.op=.call {callee:=.builtin .append,args:=#[sl,x],argTypes:=#[t,u]}) (hs:a.eval sl=v) (hx:a.eval x=.string s) (hr:(Builtin.append_ #[t,u] o.type #[v,.string s]).run P w=.ok v' w') (h:K (a.put o.dst v') w'):
  if Region.wanted o y=true then Oper.wp P o a w K Q else K (a.put o.dst undef) w:=by
 rw[if_pos hw];unfold Oper.wp execOp;simp only[ho,resolve,invoke,builtin,Sem.run_bind,Sem.run_pure,Result.andThen_ok,List.map_toArray,List.map_cons,List.map_nil,hs,hx,hr];exact h
theorem fG{w:World}{B e k n:Nat}{v:Value}{xs:List Value}(h:w.ownsRow B e k v n xs):∃oa cap,v=.slice oa n cap:=by
 rcases h.2 with⟨h1,h2⟩|⟨g,cap,cur,h1,_⟩
 ·exact⟨none,0,by rw[h1,h2]⟩
 ·exact⟨_,cap,h1⟩
theorem py{P:Program}{w w':World}{base t u ty e:Nat}{i:TypeInfo}(ht:P.underlying t=some (.slice e))(hu:P.underlying u=some .string)(hi:P.info? e=some i)(hz:i.zero=some (.int .u8 0))(hsize:i.size=1)(hby:i.bytes=1)
  {v v':Value} {n:Nat} {xs:List Value} (hown:w.ownsRow base e 1 v n xs) {s:ByteArray} (hb:n+s.size<=140737488355328) (hr:(Builtin.append_ #[t,u] ty #[v,.string s]).run P w=.ok v' w'):
  v'.ownBlock=v.ownBlock\/∀g,v'.ownBlock=some g->w.heap.size<=g:=by
 have hxl:xs.length=n:=by simpa using hown.1
 rcases hown.2 with⟨rfl,rfl⟩|⟨g,cap,cur,rfl,hbg,hg,hnc,hcm,hcs,Lc⟩
 ·by_cases hm:s.size=0
  ·have hf:=Lib.run_firstCells_string (P:=P) w 1 s;rw[hm]at hf;simp[Builtin.append_,run_underlying ht,run_underlying hu,sizeOf,typeInfo,hi,hsize,Builtin.lenOf,hm,hf]at hr;exact .inl (by rw[<-hr.1])
  ·have k:=run_append_nil_string (P:=P) w t u ty e i (.int .u8 0) ht hu hi hz s (by omega) (by omega) (by rw[hby];omega);rw[k]at hr;cases hr;exact .inr fun g h=>by cases h;exact Nat.le_refl _
 ·by_cases hroom:n+s.size<=cap
  ·have k:=Lib.run_append_room_string (P:=P) w t u ty e i ht hu hi hsize g n cap cur hg s hroom (by omega);rw[k]at hr;cases hr;exact .inl rfl
  ·have holds:∀j u,xs[j]? =some u->w.cell? ((⟨g,0,none⟩:Addr).add j)=some u:=hown.cells (g:=g) rfl;have k:=Lib.run_append_grow_string (P:=P) w t u ty e i (.int .u8 0) ht hu hi hz ⟨g,0,none⟩ n cap xs (by rw[hsize];simpa using hxl) holds s (by omega) (by omega) (by rw[hby];exact growslice_fits (by omega) (by omega));rw[k]at hr;cases hr;exact .inr fun g h=>by cases h;exact Nat.le_refl _
abbrev tY(w:World)(b:Nat)(m:bg):Prop:=w.heap[b]? =some (.cells (aL m.wh m.nm m.kd m.fl m.ck m.of m.ln m.dt m.er) 132 (0,0))
abbrev cD(w:World)(out:Value)(o:ByteArray):Prop:=w.ownsRow 0 5 1 out o.size (Lib.strCells o)
abbrev wH(c b:Nat)(sz cl qu mx qn rt bu wk ou:Int)(m:bg)(W:World):Prop:=
 (W.cell? ⟨c,2,none⟩=some (.int .i64 sz)/\W.cell? ⟨c,3,none⟩=some (.int .i64 cl)/\W.cell? ⟨c,4,none⟩=some (.int .i64 qu)/\W.cell? ⟨c,5,none⟩=some (.int .i64 mx)/\W.cell? ⟨c,6,none⟩=some (.int .i64 qn)/\W.cell? ⟨c,7,none⟩=some (.int .i64 rt)/\W.cell? ⟨c,8,none⟩=some (.int .i64 bu)/\W.cell? ⟨c,9,none⟩=some (.int .i64 wk)/\W.cell? ⟨c,10,none⟩=some (.int .i64 ou))/\
 (W.cell? ⟨b,0,none⟩=some (.int .i64 m.wh)/\W.cell? ⟨b,1,none⟩=some (.string m.nm)/\W.cell? ⟨b,2,none⟩=some (.int .i64 m.kd)/\W.cell? ⟨b,3,none⟩=some (.int .i64 m.fl)/\W.cell? ⟨b,4,none⟩=some (.int .i64 m.ck)/\W.cell? ⟨b,5,none⟩=some (.int .i64 m.of)/\W.cell? ⟨b,6,none⟩=some (.int .i64 m.ln)/\W.cell? ⟨b,7,none⟩=some (.string m.dt)/\W.cell? ⟨b,8,none⟩=some (.int .i64 m.er))
section
variable {c b rb ch:Nat} {no wt sz cl qu mx qn rt bu wk ou tok de:Int} {m:bg} {s o:ByteArray} {out:Value} {W W' w:World}
theorem wH.of'{out:Value}(h:W.heap[c]? =some (.cells (Nl no wt sz cl qu mx qn rt bu wk ou rb s out tok de ch) 168 (0,0)))(k:tY W b m):wH c b sz cl qu mx qn rt bu wk ou m W:=
 ⟨⟨aa h rfl,aa h rfl,aa h rfl,aa h rfl,aa h rfl,aa h rfl,aa h rfl,aa h rfl,aa h rfl⟩,aa k rfl,aa k rfl,aa k rfl,aa k rfl,aa k rfl,aa k rfl,aa k rfl,aa k rfl,aa k rfl⟩
theorem wH.of(h:bC W c no wt sz cl qu mx qn rt bu wk ou rb s out tok de ch)(k:tY W b m):wH c b sz cl qu mx qn rt bu wk ou m W:=wH.of' h k
abbrev yE(w W:World)(c b:Nat)(no wt sz cl qu mx qn rt bu wk ou:Int)(rb:Nat)(s:ByteArray)(out:Value)(tok de:Int)(ch:Nat)(m:bg)(o:ByteArray):Prop:=
 bC W c no wt sz cl qu mx qn rt bu wk ou rb s out tok de ch/\tY W b m/\cD W out o/\aF (fun k=>k=c\/some k=out.ownBlock) w W
theorem aM{W W':World}(hb:Below W.heap.size W W'){k:Nat}{x:Obj}(h:W.heap[k]? =some x):W'.heap[k]? =some x:=(hb.block k (Array.getElem?_eq_some_iff.1 h).1).trans h
theorem gZ{W W':World}{out:Value}{o:ByteArray}(hb:Below W.heap.size W W')(h:cD W out o):cD W' out o:=by
 refine⟨h.1,?_⟩;rcases h.2 with h|⟨g,cap,cur,h1,h2,h3,h4⟩
 ·exact .inl h
 ·exact .inr ⟨g,cap,cur,h1,h2,aM hb h3,h4⟩
theorem yE.later(h:yE w W c b no wt sz cl qu mx qn rt bu wk ou rb s out tok de ch m o)(hb:Below W.heap.size W W'):yE w W' c b no wt sz cl qu mx qn rt bu wk ou rb s out tok de ch m o:=
 ⟨aM hb h.1,aM hb h.2.1,gZ hb h.2.2.1,h.2.2.2.trans (.below hb)⟩
theorem xY{k:Nat}{x:Array Value}{T:TypeId}(h:W.heap[k]? =some (.cells x T (0,0)))(hT:T≠5)(r:cD W out o):some k≠out.ownBlock:=fun e=>by
 rcases r.2 with⟨rfl,_⟩|⟨g,cap,cur,rfl,_,h3,_⟩
 ·cases e
 ·cases e;rw[h]at h3;cases h3;exact hT rfl
theorem yE.grown(h1:bC W c no wt sz cl qu mx qn rt bu wk ou rb s out tok de ch)(h2:tY W b m)(h3:cD W out o)(h4:aF (fun k=>k=c\/some k=out.ownBlock) w W)(hg:W.grownBy W' out.ownBlock):
  bC W' c no wt sz cl qu mx qn rt bu wk ou rb s out tok de ch/\tY W' b m/\aF (fun k=>k=c\/some k=out.ownBlock) w W':=
 ⟨(hg.block _ (Array.getElem?_eq_some_iff.1 h1).1 (xY h1 (by decide) h3)).trans h1,(hg.block _ (Array.getElem?_eq_some_iff.1 h2).1 (xY h2 (by decide) h3)).trans h2,
  h4.trans ⟨hg.os,hg.size,fun k hk hx=>hg.block k hk fun e=>hx (.inr e)⟩⟩
theorem yE.row{v:Value}{a:ByteArray}(h:W.ownsRow 0 5 1 v (o.size+a.size) (Lib.strCells o++Lib.strCells a))(h1:bC W c no wt sz cl qu mx qn rt bu wk ou rb s out tok de ch){u:Value}{i:Nat}:cD (W.setCell ⟨c,i,none⟩ u) v (o++a):=by
 have e1:(o++a).size=o.size+a.size:=by simp
 have e2:Lib.strCells (o++a)=Lib.strCells o++Lib.strCells a:=by simp[Lib.strCells]
 unfold cD;rw[e1,e2];refine⟨h.1,?_⟩;rcases h.2 with h|⟨g,cap,cur,k1,k2,k3,k4⟩
 ·exact .inl h
 ·refine .inr ⟨g,cap,cur,k1,k2,aS k3 (fun e=>?_) i u,k4⟩;rw[e,h1]at k3;cases k3
end
theorem KN(c ch rb:Nat)(no wt sz cl qu mx qn rt bu wk ou tok de:Int)(s o:ByteArray)(out:Value)(m:bg)(w:World)(h0:0<=sz/\sz<=65535)(h1:0<=mx/\mx<=65535)(hs:m.nm.size<=65535)(ho:o.size<=1048576)(hm2:m.wh=1\/m.wh=2)
  (hB:bC w c no wt sz cl qu mx qn rt bu wk ou rb s out tok de ch) (hR:cD w out o):
  Calls prog 153 #[.pointer (some ⟨c,0,none⟩),.agg (aL m.wh m.nm m.kd m.fl m.ck m.of m.ln m.dt m.er)] w fun e w'=>e=.returned (.tuple #[])/\∃out',bC w' c no wt sz cl qu mx qn rt bu wk ou rb s out' tok de ch/\cD w' out' (o++answer sz mx m)/\aF (fun k=>k=c\/some k=out.ownBlock) w w'/\(out'.ownBlock=out.ownBlock\/∀g,out'.ownBlock=some g->w.heap.size<=g):=by
 obtain⟨i0,hi0,AH,iC,wS⟩:=info_parts mH;have hm:m.wh=1\/m.wh=2\/m.wh=4:=by omega
 have Vh:(m.wh==3)=false:=by simp;omega
 have PF:(m.wh==4)=false:=by simp;omega
 have YQ:(answer sz mx m).size<=65540:=by
  unfold answer;split
  ·split<;>exact(by decide:(1:Nat)<=65540)
  ·split
   ·split
    ·rw[ByteArray.size_append,ByteArray.size_append];exact(by decide:1+2+2<=65540)
    ·split
     ·exact(by decide:(1:Nat)<=65540)
     ·rw[ByteArray.size_append];show 1+m.nm.size<=65540;omega
   ·exact(by decide:(0:Nat)<=65540)
 have hlt:=(Array.getElem?_eq_some_iff.1 hB).1;have HN:Hid (w.heap.size≠c):=by show w.heap.size≠c;omega
 have HW:Hid (yE w (w.alloc (.cells (aL m.wh m.nm m.kd m.fl m.ck m.of m.ln m.dt m.er) 132)).drew c w.heap.size no wt sz cl qu mx qn rt bu wk ou rb s out tok de ch m o):=
  have xN:Below w.heap.size w (w.alloc (.cells (aL m.wh m.nm m.kd m.fl m.ck m.of m.ln m.dt m.er) 132)).drew:=((Below.refl _ w).alloc (Nat.le_refl _) _).drew
  ⟨aM xN hB,heap_alloc_new w _,gZ xN hR,aF.below xN⟩
 have Jq:(w.alloc (.cells (aL m.wh m.nm m.kd m.fl m.ck m.of m.ln m.dt m.er) 132)).cell? ⟨c,16,none⟩=some out:=aa HW.out.1 rfl;clear hB hR hlt;go_enter func153,ntmps153
 go_upto_region 1 with fail
 go_cut [3] (fun q w'=>q=.pointer (some ⟨w.heap.size,0,none⟩)/\∃out',bC w' c no wt sz cl qu mx qn rt bu wk ou rb s out' tok de ch/\tY w' w.heap.size m/\cD w' out' (o++answer sz mx m)/\aF (fun k=>k=c\/some k=out.ownBlock) w w'/\(out'.ownBlock=out.ownBlock\/∀g,out'.ownBlock=some g->w.heap.size<=g))
 case first=>
  refine wp_region_noPanic ?_;refine wp_region_held_drew (S:=wH c w.heap.size sz cl qu mx qn rt bu wk ou m) (by kernel_rfl) (wH.of HW.out.1 HW.out.2.1) ?_;intro hHeld;refine tk 0 ?_;refine tk 1 ?_;refine tk 2 ?_;refine tk 3 ?_;refine tk 5 ?_;refine tk 6 ?_;refine tk 7 ?_;refine tk 8 ?_;refine tk 9 ?_;refine aH [4,10] (.cons rfl (fun K hK=>?_) ?_)
  ·go_simp;refine hK.out _ _ (hHeld) (fun uM=>?_);clear hK K;refine rH 10 fun K hK=>?_;go_simp
   (refine(kI sz cl qu mx qn rt bu wk ou m _ h0 h1 hs hm).mono ?_;rintro e w2 ⟨rfl,bE⟩;obtain⟨iX,KF,Hi,NL⟩:=yE.later HW.out bE;have ZV:w2.cell? ⟨c,16,none⟩=some out:=aa iX rfl)
   go_wp2_with fail;refine hK.out _ _ (wH.of iX KF) (fun Eb=>?_);clear hK K;refine rH 11 fun K hK=>?_
   (obtain⟨v',w3,hr,ji,Rh,_⟩:=Lib.run_append_own_string (P:=prog) w2 0 158 9 158 5 i0 underlying158 underlying9 hi0 AH iC wS out o.size (Lib.strCells o) Hi (answer sz mx m) (by unfold maxLen;omega) (by omega) (Nat.zero_le _);have tH:=py underlying158 underlying9 hi0 AH iC wS Hi (by omega) hr;obtain⟨va,vc,rfl⟩:=fG ji;obtain⟨kC,Ed,MN⟩:=yE.grown iX KF Hi NL Rh;have ZW:w3.cell? ⟨c,16,none⟩=some out:=aa kC rfl;have rf:=aG kC 16;refine gY rfl rfl rfl rfl hr ?_;simp only[Act.put,List.getElem_toArray,List.getElem_cons_zero,List.getElem_cons_succ,List.setIfInBounds_toArray,List.set_cons_zero,List.set_cons_succ])
   refine hK.out _ _ (wH.of kC Ed) (fun He=>?_);clear hK K;refine tk 12 ?_;refine tk 13 ?_;refine rH 14 fun K hK=>?_;go_simp;refine hK.out _ _ (wH.of' (aX kC 16 _) (aS Ed HN.out 16 _)) (fun zf=>?_);clear hK K;refine wpAnyH_done (by kernel_rfl) ?_ _
   (refine NoPanic.normal ?_;go_wp2_with fail;go_meet;case rel=>exact⟨rfl,_,aX kC 16 _,aS Ed HN.out 16 _,yE.row ji kC,MN.set (p:=⟨c,16,none⟩) (.inl rfl) _,tH.imp id (fun h g e=>Nat.le_trans NL.size (h g e))⟩)
  refine .cons rfl (fun K hK=>?_) .nil;go_simp
  (refine(kI sz cl qu mx qn rt bu wk ou m _ h0 h1 hs hm).mono ?_;rintro e w2 ⟨rfl,bE⟩;obtain⟨iX,KF,Hi,NL⟩:=yE.later HW.out bE;have ZV:w2.cell? ⟨c,16,none⟩=some out:=aa iX rfl)
  go_wp2_with fail;refine hK.out _ _ (wH.of iX KF) (fun DY=>?_);clear hK K;refine rH 4 fun K hK=>?_;go_simp;refine hK.out _ _ (DY) (fun Ea=>?_);clear hK K;refine rH 11 fun K hK=>?_
  (obtain⟨v',w3,hr,ji,Rh,_⟩:=Lib.run_append_own_string (P:=prog) w2 0 158 9 158 5 i0 underlying158 underlying9 hi0 AH iC wS out o.size (Lib.strCells o) Hi (answer sz mx m) (by unfold maxLen;omega) (by omega) (Nat.zero_le _);have tH:=py underlying158 underlying9 hi0 AH iC wS Hi (by omega) hr;obtain⟨va,vc,rfl⟩:=fG ji;obtain⟨kC,Ed,MN⟩:=yE.grown iX KF Hi NL Rh;have ZW:w3.cell? ⟨c,16,none⟩=some out:=aa kC rfl;have rf:=aG kC 16;refine gY rfl rfl rfl rfl hr ?_;simp only[Act.put,List.getElem_toArray,List.getElem_cons_zero,List.getElem_cons_succ,List.setIfInBounds_toArray,List.set_cons_zero,List.set_cons_succ])
  refine hK.out _ _ (wH.of kC Ed) (fun GW=>?_);clear hK K;refine tk 12 ?_;refine tk 13 ?_;refine rH 14 fun K hK=>?_;go_simp;refine hK.out _ _ (wH.of' (aX kC 16 _) (aS Ed HN.out 16 _)) (fun za=>?_);clear hK K;refine wpAnyH_done (by kernel_rfl) ?_ _
  (refine NoPanic.normal ?_;go_wp2_with fail;go_meet;case rel=>exact⟨rfl,_,aX kC 16 _,aS Ed HN.out 16 _,yE.row ji kC,MN.set (p:=⟨c,16,none⟩) (.inl rfl) _,tH.imp id (fun h g e=>Nat.le_trans NL.size (h g e))⟩)
 case rest=>
  obtain⟨rfl,out',k1,k2,k3,k4,k5⟩:=hcut;have z0:wc.cell? ⟨w.heap.size,0,none⟩=some (.int .i64 m.wh):=aa k2 rfl;have z1:wc.cell? ⟨w.heap.size,1,none⟩=some (.string m.nm):=aa k2 rfl;have z2:wc.cell? ⟨w.heap.size,2,none⟩=some (.int .i64 m.kd):=aa k2 rfl;have z3:wc.cell? ⟨w.heap.size,3,none⟩=some (.int .i64 m.fl):=aa k2 rfl;have z4:wc.cell? ⟨w.heap.size,4,none⟩=some (.int .i64 m.ck):=aa k2 rfl;have z5:wc.cell? ⟨w.heap.size,5,none⟩=some (.int .i64 m.of):=aa k2 rfl;have z6:wc.cell? ⟨w.heap.size,6,none⟩=some (.int .i64 m.ln):=aa k2 rfl;have z7:wc.cell? ⟨w.heap.size,7,none⟩=some (.string m.dt):=aa k2 rfl;have z8:wc.cell? ⟨w.heap.size,8,none⟩=some (.int .i64 m.er):=aa k2 rfl;have HK:Hid (bC wc c no wt sz cl qu mx qn rt bu wk ou rb s out' tok de ch/\cD wc out' (o++answer sz mx m)/\aF (fun k=>k=c\/some k=out.ownBlock) w wc/\(out'.ownBlock=out.ownBlock\/∀g,out'.ownBlock=some g->w.heap.size<=g)):=⟨k1,k3,k4,k5⟩;clear k1 k2 k3 k4 k5 Jq;go_wp2_with (go_at_call 193;refine(wT m _ Vh).mono ?_;rintro e w5 ⟨rfl,YS⟩);exact cw rfl rfl ⟨rfl,out',aM YS HK.out.1,gZ YS HK.out.2.1,HK.out.2.2.1.trans (.below YS),HK.out.2.2.2⟩
theorem zn(c ch rb:Nat)(no wt sz cl qu mx qn rt bu wk ou tok de:Int)(s o:ByteArray)(out:Value)(m:bg)(w:World)(h0:0<=sz/\sz<=65535)(h1:0<=mx/\mx<=65535)(hs:m.nm.size<=65535)(ho:o.size<=1048576)(hm2:m.wh=4)
  (hB:bC w c no wt sz cl qu mx qn rt bu wk ou rb s out tok de ch) (hR:cD w out o) (hc:w.heap[ch]? =some (.chan 0 #[] false 0 0 false)):
  Calls prog 153 #[.pointer (some ⟨c,0,none⟩),.agg (aL m.wh m.nm m.kd m.fl m.ck m.of m.ln m.dt m.er)] w fun e w'=>e=.returned (.tuple #[])/\bC w' c no wt sz cl qu mx qn rt bu wk ou rb ⟨#[]⟩ (.slice none 0 0) tok de ch/\w'.heap[ch]? =some (.chan 0 #[] true 0 0 false)/\aF (fun k=>k=c\/some k=out.ownBlock\/k=ch) w w':=by
 obtain⟨i0,hi0,AH,iC,wS⟩:=info_parts mH;have hm:m.wh=1\/m.wh=2\/m.wh=4:=by omega
 have PF:(m.wh==4)=true:=by simp;omega
 clear hm2
 have YQ:(answer sz mx m).size<=65540:=by
  unfold answer;split
  ·split<;>exact(by decide:(1:Nat)<=65540)
  ·split
   ·split
    ·rw[ByteArray.size_append,ByteArray.size_append];exact(by decide:1+2+2<=65540)
    ·split
     ·exact(by decide:(1:Nat)<=65540)
     ·rw[ByteArray.size_append];show 1+m.nm.size<=65540;omega
   ·exact(by decide:(0:Nat)<=65540)
 have hlt:=(Array.getElem?_eq_some_iff.1 hB).1
 have HC:Hid (∀W,aF (fun k=>k=c\/some k=out.ownBlock) w W->W.heap[ch]? =some (.chan 0 #[] false 0 0 false)):=fun W hW=>by
  refine(hW.block ch (Array.getElem?_eq_some_iff.1 hc).1 ?_).trans hc;rintro(e|e)
  ·subst e;exact absurd (hB.symm.trans hc) (by simp)
  ·rcases hR.2 with⟨rfl,_⟩|⟨g,cap,cur,rfl,_,h3,_⟩
   ·cases e
   ·cases e;rw[hc]at h3;cases h3
 clear hc;have HN:Hid (w.heap.size≠c):=by show w.heap.size≠c;omega
 have HW:Hid (yE w (w.alloc (.cells (aL m.wh m.nm m.kd m.fl m.ck m.of m.ln m.dt m.er) 132)).drew c w.heap.size no wt sz cl qu mx qn rt bu wk ou rb s out tok de ch m o):=
  have xN:Below w.heap.size w (w.alloc (.cells (aL m.wh m.nm m.kd m.fl m.ck m.of m.ln m.dt m.er) 132)).drew:=((Below.refl _ w).alloc (Nat.le_refl _) _).drew
  ⟨aM xN hB,heap_alloc_new w _,gZ xN hR,aF.below xN⟩
 have Jq:(w.alloc (.cells (aL m.wh m.nm m.kd m.fl m.ck m.of m.ln m.dt m.er) 132)).cell? ⟨c,16,none⟩=some out:=aa HW.out.1 rfl;clear hB hR hlt;go_enter func153,ntmps153
 go_upto_region 1 with fail
 go_cut [3] (fun q w'=>q=.pointer (some ⟨w.heap.size,0,none⟩)/\∃out',bC w' c no wt sz cl qu mx qn rt bu wk ou rb s out' tok de ch/\tY w' w.heap.size m/\cD w' out' (o++answer sz mx m)/\aF (fun k=>k=c\/some k=out.ownBlock) w w')
 case first=>
  refine wp_region_noPanic ?_;refine wp_region_held_drew (S:=wH c w.heap.size sz cl qu mx qn rt bu wk ou m) (by kernel_rfl) (wH.of HW.out.1 HW.out.2.1) ?_;intro hHeld;refine tk 0 ?_;refine tk 1 ?_;refine tk 2 ?_;refine tk 3 ?_;refine tk 5 ?_;refine tk 6 ?_;refine tk 7 ?_;refine tk 8 ?_;refine tk 9 ?_;refine aH [4,10] (.cons rfl (fun K hK=>?_) ?_)
  ·go_simp;refine hK.out _ _ (hHeld) (fun uM=>?_);clear hK K;refine rH 10 fun K hK=>?_;go_simp
   (refine(kI sz cl qu mx qn rt bu wk ou m _ h0 h1 hs hm).mono ?_;rintro e w2 ⟨rfl,bE⟩;obtain⟨iX,KF,Hi,NL⟩:=yE.later HW.out bE;have ZV:w2.cell? ⟨c,16,none⟩=some out:=aa iX rfl)
   go_wp2_with fail;refine hK.out _ _ (wH.of iX KF) (fun Eb=>?_);clear hK K;refine rH 11 fun K hK=>?_
   (obtain⟨v',w3,hr,ji,Rh,_⟩:=Lib.run_append_own_string (P:=prog) w2 0 158 9 158 5 i0 underlying158 underlying9 hi0 AH iC wS out o.size (Lib.strCells o) Hi (answer sz mx m) (by unfold maxLen;omega) (by omega) (Nat.zero_le _);obtain⟨va,vc,rfl⟩:=fG ji;obtain⟨kC,Ed,MN⟩:=yE.grown iX KF Hi NL Rh;have ZW:w3.cell? ⟨c,16,none⟩=some out:=aa kC rfl;have rf:=aG kC 16;refine gY rfl rfl rfl rfl hr ?_;simp only[Act.put,List.getElem_toArray,List.getElem_cons_zero,List.getElem_cons_succ,List.setIfInBounds_toArray,List.set_cons_zero,List.set_cons_succ])
   refine hK.out _ _ (wH.of kC Ed) (fun He=>?_);clear hK K;refine tk 12 ?_;refine tk 13 ?_;refine rH 14 fun K hK=>?_;go_simp;refine hK.out _ _ (wH.of' (aX kC 16 _) (aS Ed HN.out 16 _)) (fun zf=>?_);clear hK K;refine wpAnyH_done (by kernel_rfl) ?_ _
   (refine NoPanic.normal ?_;go_wp2_with fail;go_meet;case rel=>exact⟨rfl,_,aX kC 16 _,aS Ed HN.out 16 _,yE.row ji kC,MN.set (p:=⟨c,16,none⟩) (.inl rfl) _⟩)
  refine .cons rfl (fun K hK=>?_) .nil;go_simp
  (refine(kI sz cl qu mx qn rt bu wk ou m _ h0 h1 hs hm).mono ?_;rintro e w2 ⟨rfl,bE⟩;obtain⟨iX,KF,Hi,NL⟩:=yE.later HW.out bE;have ZV:w2.cell? ⟨c,16,none⟩=some out:=aa iX rfl)
  go_wp2_with fail;refine hK.out _ _ (wH.of iX KF) (fun DY=>?_);clear hK K;refine rH 4 fun K hK=>?_;go_simp;refine hK.out _ _ (DY) (fun Ea=>?_);clear hK K;refine rH 11 fun K hK=>?_
  (obtain⟨v',w3,hr,ji,Rh,_⟩:=Lib.run_append_own_string (P:=prog) w2 0 158 9 158 5 i0 underlying158 underlying9 hi0 AH iC wS out o.size (Lib.strCells o) Hi (answer sz mx m) (by unfold maxLen;omega) (by omega) (Nat.zero_le _);obtain⟨va,vc,rfl⟩:=fG ji;obtain⟨kC,Ed,MN⟩:=yE.grown iX KF Hi NL Rh;have ZW:w3.cell? ⟨c,16,none⟩=some out:=aa kC rfl;have rf:=aG kC 16;refine gY rfl rfl rfl rfl hr ?_;simp only[Act.put,List.getElem_toArray,List.getElem_cons_zero,List.getElem_cons_succ,List.setIfInBounds_toArray,List.set_cons_zero,List.set_cons_succ])
  refine hK.out _ _ (wH.of kC Ed) (fun GW=>?_);clear hK K;refine tk 12 ?_;refine tk 13 ?_;refine rH 14 fun K hK=>?_;go_simp;refine hK.out _ _ (wH.of' (aX kC 16 _) (aS Ed HN.out 16 _)) (fun za=>?_);clear hK K;refine wpAnyH_done (by kernel_rfl) ?_ _
  (refine NoPanic.normal ?_;go_wp2_with fail;go_meet;case rel=>exact⟨rfl,_,aX kC 16 _,aS Ed HN.out 16 _,yE.row ji kC,MN.set (p:=⟨c,16,none⟩) (.inl rfl) _⟩)
 case rest=>
  obtain⟨rfl,out',k1,k2,k3,k4⟩:=hcut;have z0:wc.cell? ⟨w.heap.size,0,none⟩=some (.int .i64 m.wh):=aa k2 rfl;have Rf:wc.heap[ch]? =some (.chan 0 #[] false 0 0 false):=HC.out _ k4;have HK:Hid (aF (fun k=>k=c\/some k=out.ownBlock) w wc):=k4;have HL:Hid (ch<w.heap.size->True):=fun _=>trivial;have HQ:Hid (bC wc c no wt sz cl qu mx qn rt bu wk ou rb s out' tok de ch/\wc.heap[ch]? =some (.chan 0 #[] false 0 0 false)):=⟨k1,Rf⟩;clear k1 k2 k3 k4 Jq Rf;go_wp2_with (go_at_call 75;refine(ur c ch rb no wt sz cl qu mx qn rt bu wk ou tok de s out' _ HQ.out.1 HQ.out.2).mono ?_;rintro e w5 ⟨rfl,q1,q2,q3⟩);exact cw rfl rfl ⟨rfl,q1,q2,(HK.out.mono (fun k _ h=>h.elim .inl (fun e=>.inr (.inl e)))).trans (q3.mono (fun k _ h=>h.elim .inl (fun e=>.inr (.inr e))))⟩
end
section
def Cl.hears(ou:Int)(k:Cl):Prop:=k.ph<=2/\(k.out.size:Int)+6<=ou
theorem Ke(s:ByteArray)(p n:Nat)(_h:p+n<=s.size):(s.extract p s.size).extract n (s.extract p s.size).size=s.extract (p+n) s.size:=by
 apply ByteArray.ext;simp[ByteArray.size_extract]
 congr 1
 omega
inductive Goes(sz mx ou:Int)(k:Cl):List (bg×Int)->Cl->Prop
 |nil:Goes sz mx ou k [] k
 |snoc {pre:List (bg×Int)} {k1:Cl} {x:bg×Int} (h:Goes sz mx ou k pre k1) (hh:k1.hears ou) (hx:first sz mx k1.ph [] k1.aO=x) (h0:x.2≠0) (h4:x.1.wh≠4):Goes sz mx ou k (pre++[x]) (k1.hear sz mx x)
theorem yh{sz mx ou:Int}{k:Cl}{x:bg×Int}(hh:k.hears ou)(hx:first sz mx k.ph [] k.aO=x)(h0:x.2≠0)(h4:x.1.wh≠4)(f:Nat):Cl.read sz mx ou (f+1) k=Cl.read sz mx ou f (k.hear sz mx x):=by unfold Cl.hears at hh;rw[Cl.read,if_pos hh];simp only[hx,h0,h4,if_false]
theorem yg{sz mx ou:Int}{k:Cl}{x:bg×Int}(hh:k.hears ou)(hx:first sz mx k.ph [] k.aO=x)(h0:x.2≠0)(h4:x.1.wh=4)(f:Nat):Cl.read sz mx ou (f+1) k=k.shut:=by unfold Cl.hears at hh;rw[Cl.read,if_pos hh];simp only[hx,h0,h4,if_false,if_true]
theorem yf{sz mx ou:Int}{k:Cl}(h0:(first sz mx k.ph [] k.aO).2=0)(f:Nat):Cl.read sz mx ou f k=k:=by
 cases f with
 |zero=>rfl
 |succ f=>
  rw[Cl.read];split
  ·simp only[h0,if_true]
  ·rfl
theorem rm{sz mx ou:Int}{k:Cl}(hh:¬k.hears ou)(f:Nat):Cl.read sz mx ou f k=k:=by
 cases f with
 |zero=>rfl
 |succ f=>
  rw[Cl.read];exact if_neg hh
theorem rq{sz mx ou:Int}{k k1:Cl}{pre:List (bg×Int)}(h:Goes sz mx ou k pre k1):∀f,Cl.read sz mx ou (pre.length+f) k=Cl.read sz mx ou f k1:=by
 induction h with
 |nil=>intro f;simp
 |@snoc pre k1 x h hh hx h0 h4 ih=>
  intro f;have e:(pre++[x]).length+f=pre.length+(f+1):=by simp;omega
  rw[e,ih (f+1),yh hh hx h0 h4]
theorem yY(s:ByteArray)(f i:Nat):(aI s f i).1.nm.size<=1:=by
 induction f generalizing i with
 |zero=>unfold aI;split
        ·exact(by decide:(0:Nat)<=1)
        ·show(s.extract 5 6).size<=1;simp[ByteArray.size_extract];omega
 |succ f ih=>
  unfold aI;split
  ·exact(by decide:(0:Nat)<=1)
  ·split
   ·exact ih (i+1)
   ·exact(by decide:(0:Nat)<=1)
theorem pP(sz mx ph:Int)(us:List Int)(s:ByteArray):(first sz mx ph us s).1.nm.size<=1:=by
 unfold first
 split
 ·exact yY s 5 0
 ·split
  ·unfold opt;split
   ·exact(by decide:(0:Nat)<=1)
   ·split
    ·exact(by decide:(0:Nat)<=1)
    ·show(s.extract 0 1).size<=1;simp[ByteArray.size_extract];omega
  ·split
   ·unfold cS
    repeat' split
    all_goals exact(by decide:(0:Nat)<=1)
   ·exact(by decide:(0:Nat)<=1)
theorem pU{sz mx ou:Int}{k k1:Cl}{pre:List (bg×Int)}(h:Goes sz mx ou k pre k1)(hq:fT k.aO):
  k1.ph=((⟨k.ph,[],0⟩:St).run pre).ph/\((⟨k.ph,[],0⟩:St).run pre).used=[]/\k1.aO=k.aO.extract ((⟨k.ph,[],0⟩:St).run pre).pos k.aO.size/\((⟨k.ph,[],0⟩:St).run pre).pos<=k.aO.size/\fT k1.aO/\k1.no=k.no/\k1.wt=k.wt/\k1.tok=k.tok:=by
 induction h with
 |nil=>
  refine⟨rfl,rfl,?_,Nat.zero_le _,hq,rfl,rfl,rfl⟩;show k.aO=k.aO.extract 0 k.aO.size;simp
 |@snoc pre k1 x h hh hx h0 h4 ih=>
  obtain⟨i1,i2,i3,i4,i5,i6,i7,i8⟩:=ih;have hin:=pO sz mx k1.ph [] k1.aO;have hacc:=nQ (sz:=sz) (mx:=mx) (ph:=k1.ph) (us:=[]) i5 (by rw[hx];exact h0);rw[hx]at hin hacc;have hsz:k1.aO.size=k.aO.size-((⟨k.ph,[],0⟩:St).run pre).pos:=by rw[i3];simp[ByteArray.size_extract]
  rw[St.vG];refine⟨?_,?_,?_,?_,i5.rest _,i6,i7,i8⟩
  ·show after k1.ph x.1=after _ x.1;rw[i1]
  ·show(if accepted x.1 then _ else _)=[];rw[hacc];exact i2
  ·show k1.aO.extract x.2.toNat k1.aO.size=k.aO.extract (((⟨k.ph,[],0⟩:St).run pre).pos+x.2.toNat) k.aO.size;rw[i3];exact Ke _ _ _ (by omega)
  ·show((⟨k.ph,[],0⟩:St).run pre).pos+x.2.toNat<=k.aO.size;omega
theorem xH{sz mx ou:Int}{k k1:Cl}{pre:List (bg×Int)}(h:Goes sz mx ou k pre k1)(hq:fT k.aO):((⟨k.ph,[],0⟩:St).run pre).next sz mx k.aO=first sz mx k1.ph [] k1.aO:=by
 obtain⟨i1,i2,i3,_⟩:=pU h hq;unfold St.next
 rw[i1,i2,i3]
end
end Go.Proofs.YtpobhljcainmdaaGreat
