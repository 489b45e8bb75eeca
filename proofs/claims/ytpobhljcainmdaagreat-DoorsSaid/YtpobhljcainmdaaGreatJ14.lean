/- Proved here: a part of what Doors keeps (Fe14, Rf4, Fe15, Fe16, Rf5). -/
import Derived.Test.YtpobhljcainmdaaGreatJ02
import Derived.Test.YtpobhljcainmdaaGreatJ13
set_option maxRecDepth 100000
set_option maxHeartbeats 8000000
set_option linter.all false
namespace Go.Proofs.YtpobhljcainmdaaGreat
section
open Go.Proofs.Tryz
open Go.RowKit
attribute [local go_sem ↓] Go.wp_at_zero Go.wp_at_succ
attribute [local go_sem] au aj
def Cl.gone(k:Cl):Bool:=decide (3<=k.ph/\k.out.size=0)
theorem eZ(gone:Nat->Bool)(cs:List (Option Nat)):ay (lets gone cs)=(ay cs).filter fun c=>!gone c:=by
 induction cs with
 |nil=>rfl
 |cons v cs ih=>
  cases v with
  |none=>exact ih
  |some c=>
   have e:ay (lets gone (some c::cs))=(if gone c then[]else[c])++ay (lets gone cs):=by cases h:gone c<;>simp[ay,lets,mI,h]
   rw[e,ih];cases h:gone c<;>simp[ay,h]
theorem xU{gone:Nat->Bool}{cs:List (Option Nat)}(h:∀c∈ay cs,gone c=false):lets gone cs=cs:=by
 unfold lets
 conv=>rhs;rw[<-List.map_id cs]
 apply List.map_congr_left;intro v hv;cases v with
 |none=>rfl
 |some c=>simp[mI,h c (List.mem_filterMap.2 ⟨some c,hv,rfl⟩)]
theorem DO(xb sb N:Nat)(cs:List (Option Nat))(p:aK)(C:Nat->Nat->Prop)(sz qu mx qn rt bu wk ou av clock:Int)(stop:Bool)(j:Nat)(db:Option Addr)(w:World)(h:bf w xb sb N cs p C sz qu mx qn rt bu wk ou av clock stop j db)(hN:N<=65535):
  Calls prog 64 #[.pointer (some ⟨xb,0,none⟩)] w fun e w'=>e=.returned (.tuple #[])/\bf w' xb sb N (lets (fun c=>(p.k c).gone) cs) p C sz qu mx qn rt bu wk ou av clock stop j db/\aF (fun i=>i=sb\/i=xb) w w':=by
 refine(Hv xb sb N cs (fun c=>(p.k c).gone) sz N qu mx qn rt bu wk ou av clock j stop db w h.box h.row h.len hN (fun c hc W ht=>?_)).mono ?_
 ·exact Hu c _ _ _ sz N qu mx qn rt bu wk ou 0 (p.k c) W ((h.all c hc).apart (h.owns c hc) ht (fun b hb=>by
   rintro(e|e)
   ·exact(h.cG c hc).2 (e▸hb)
   ·exact(h.cG c hc).1 (e▸hb)))
 ·rintro e w' ⟨h1,h2,h3,h4⟩
  have hX:∀c∈ay cs,∀b,C c b->¬(b=sb\/b=xb):=fun c hc b hb=>by
   rintro(e|e)
   ·exact(h.cG c hc).2 (e▸hb)
   ·exact(h.cG c hc).1 (e▸hb)
  have hs:∀c∈ay (lets (fun c=>(p.k c).gone) cs),c∈ay cs:=fun c hc=>by rw[eZ]at hc;exact(List.mem_filter.1 hc).1
  refine⟨h1,⟨h2,h3,by simp[lets,h.len],fun c hc=>(h.all c (hs c hc)).apart (h.owns c (hs c hc)) h4 (hX c (hs c hc)),?_,fun c hc=>(h.owns c (hs c hc)).apart (h.all c (hs c hc)) h4 (hX c (hs c hc)),fun c hc c' fN=>h.apart c (hs c hc) c' (hs c' fN),fun c hc=>h.cG c (hs c hc),fun c hc b hb=>Nat.lt_of_lt_of_le (h.lt c (hs c hc) b hb) h4.size⟩,h4⟩;rw[eZ];exact h.nodup.filter _
theorem DW(xb sb N:Nat)(cs:List (Option Nat))(p:aK)(C:Nat->Nat->Prop)(sz qu mx qn rt bu wk ou av clock:Int)(stop:Bool)(j:Nat)(db:Option Addr)(u n:Int)(w:World)(h:bf w xb sb N cs p C sz qu mx qn rt bu wk ou av clock stop j db)(hN:N<=65535)(hu:p.find cs u=none):
  Calls prog 33 #[.pointer (some ⟨xb,0,none⟩),.int .i64 u,.int .i64 n] w fun e w'=>e=.returned (.tuple #[.string ⟨#[]⟩,.int .i64 2])/\Below w.heap.size w w':=by
 have Dj:Hid (Calls prog 68 #[.pointer (some ⟨xb,0,none⟩),.int .i64 u] w fun e w'=>e=.returned (.pointer none)/\Below w.heap.size w w'):=yU h hN hu;clear h hu;go_enter func33,ntmps33;go_wp2_with (go_at_call 68;refine Dj.out.mono ?_;rintro e w1 ⟨rfl,hb⟩)
 go_ret2
 exact⟨rfl,hb⟩
theorem BD(xb sb N c:Nat)(cs:List (Option Nat))(p p':aK)(C:Nat->Nat->Prop)(sz qu mx qn rt bu wk ou av clock:Int)(stop:Bool)(j:Nat)(db:Option Addr)(u n e2:Int)(s:ByteArray)(w:World)(h:bf w xb sb N cs p C sz qu mx qn rt bu wk ou av clock stop j db)(hN:N<=65535)(hu:p.find cs u=some c)(hg:∀c∈ay cs,(p'.k c).gone=false)
  (ht:∀W,Below w.heap.size w W->Calls prog 69 #[.pointer (some ⟨c,0,none⟩),.int .i64 n] W fun e w'=>e=.returned (.tuple #[.string s,.int .i64 e2])/\bf w' xb sb N cs p' C sz qu mx qn rt bu wk ou av clock stop j db/\aF (C c) W w'/\iR (C c) c W w'):
  Calls prog 33 #[.pointer (some ⟨xb,0,none⟩),.int .i64 u,.int .i64 n] w fun e w'=>e=.returned (.tuple #[.string s,.int .i64 e2])/\bf w' xb sb N cs p' C sz qu mx qn rt bu wk ou av clock stop j db/\aF (fun b=>C c b\/b=sb\/b=xb) w w'/\iR (C c) c w w':=by
 have Dj:Hid (Calls prog 68 #[.pointer (some ⟨xb,0,none⟩),.int .i64 u] w fun e w'=>e=.returned (.pointer (some ⟨c,0,none⟩))/\Below w.heap.size w w'):=found h hN hu;have HT:Hid (∀W,Below w.heap.size w W->Calls prog 69 #[.pointer (some ⟨c,0,none⟩),.int .i64 n] W fun e w'=>e=.returned (.tuple #[.string s,.int .i64 e2])/\bf w' xb sb N cs p' C sz qu mx qn rt bu wk ou av clock stop j db/\aF (C c) W w'/\iR (C c) c W w'):=ht
 have HL:Hid (∀W,bf W xb sb N cs p' C sz qu mx qn rt bu wk ou av clock stop j db->Calls prog 64 #[.pointer (some ⟨xb,0,none⟩)] W fun e w'=>e=.returned (.tuple #[])/\bf w' xb sb N cs p' C sz qu mx qn rt bu wk ou av clock stop j db/\aF (fun i=>i=sb\/i=xb) W w'):=fun W hW=>by have:=DO xb sb N cs p' C sz qu mx qn rt bu wk ou av clock stop j db W hW hN;rw[xU hg]at this;exact this
 have hf:=h.cG c (aK.mem hu);have hlt:=h.lt c (aK.mem hu);clear h hu hg ht;go_enter func33,ntmps33
 go_wp2_with (first
  |(go_at_call 68;refine Dj.out.mono ?_;rintro e w1 ⟨rfl,hb⟩)
  |(go_at_call 69;refine(HT.out _ hb).mono ?_;rintro e w2 ⟨rfl,h2,t2,i2⟩)
  |(go_at_call 64;refine(HL.out _ h2).mono ?_;rintro e w3 ⟨rfl,h3,t3⟩))
 go_ret2
 exact⟨rfl,h3,((aF.below hb).trans (t2.mono fun _ _ h=>.inl h)).trans (t3.mono fun _ _ h=>.inr h),((iR.vq (X:=fun _=>False) (.below hb) hlt (fun _ _ h=>h.elim)).trans i2).trans (iR.vq t3 (fun b hb'=>Nat.lt_of_lt_of_le (hlt b hb') (Nat.le_trans hb.size t2.size)) fun b hb' e=>(by
  rcases e with e|e
  ·exact absurd (e▸hb') hf.2
  ·exact absurd (e▸hb') hf.1))⟩
theorem DL(xb sb N:Nat)(cs:List (Option Nat))(p:aK)(C:Nat->Nat->Prop)(sz qu mx qn rt bu wk ou av clock:Int)(stop:Bool)(j:Nat)(db:Option Addr)(u:Int)(w:World)(h:bf w xb sb N cs p C sz qu mx qn rt bu wk ou av clock stop j db)(hN:N<=65535)(hu:p.find cs u=none):
  Calls prog 39 #[.pointer (some ⟨xb,0,none⟩),.int .i64 u] w fun e w'=>e=.returned (.int .i64 2)/\Below w.heap.size w w':=by
 have Dj:Hid (Calls prog 68 #[.pointer (some ⟨xb,0,none⟩),.int .i64 u] w fun e w'=>e=.returned (.pointer none)/\Below w.heap.size w w'):=yU h hN hu;clear h hu;go_enter func39,ntmps39;go_wp2_with (go_at_call 68;refine Dj.out.mono ?_;rintro e w1 ⟨rfl,hb⟩);go_ret;exact⟨rfl,hb⟩
end
section
open Go.Proofs.Tryz
open Go.RowKit
attribute [local go_sem ↓] Go.wp_at_zero Go.wp_at_succ
attribute [local go_sem] au aj
structure bL(W:World)(yb sb N:Nat)(ys:List (Option Nat))(kr:Nat->Cl)(sz qu mx qn rt bu wk ou many clock:Int)(aA:Nat)(stop:Bool):Prop where
 box:dA W yb sz N qu mx qn rt bu wk ou sb N many clock aA false stop
 row:AQ W sb ys
 len:ys.length=N
 nodup:(ay ys).Nodup
 all:∀y∈ay ys,cE W y (kr y) 0
def yF(yb sb:Nat)(ys:List (Option Nat))(i:Nat):Prop:=i=yb\/i=sb\/i∈ay ys
section
variable {W W':World} {yb sb N:Nat} {ys:List (Option Nat)} {kr:Nat->Cl} {sz qu mx qn rt bu wk ou many clock:Int} {aA:Nat} {stop:Bool}
theorem bL.old(h:bL W yb sb N ys kr sz qu mx qn rt bu wk ou many clock aA stop){X:Nat->Prop}(ht:aF X W W')(hX:∀i,yF yb sb ys i->¬X i):bL W' yb sb N ys kr sz qu mx qn rt bu wk ou many clock aA stop:=
 ⟨aN ht h.box (hX _ (.inl rfl)),aN ht h.row (hX _ (.inr (.inl rfl))),h.len,h.nodup,fun y hy=>aN ht (h.all y hy) (hX _ (.inr (.inr hy)))⟩
theorem bL.cells(h:bL W yb sb N ys kr sz qu mx qn rt bu wk ou many clock aA stop):∀y∈dN ys,W.cell? ⟨y,0,none⟩=some (.int .i64 (kr y).no):=fun y hy=>af (h.all y hy) rfl
end
theorem nA(yb sb N:Nat)(ys:List (Option Nat))(kr:Nat->Cl)(sz qu mx qn rt bu wk ou many clock:Int)(aA:Nat)(stop:Bool)(w:World)(h:bL w yb sb N ys kr sz qu mx qn rt bu wk ou many clock aA stop)(hN:N<=65535)(nw:∀y∈ay ys,(kr y).ph<=2\/(kr y).ph=4):
  Calls prog 177 #[.pointer (some ⟨yb,0,none⟩)] w fun e w'=>e=.returned (.tuple #[])/\bL w' yb sb N (lets (fun y=>decide ((kr y).ph=4)) ys) kr sz qu mx qn rt bu wk ou many clock aA stop/\aF (fun i=>i=sb\/i=yb) w w':=by
 have HH:Hid (bL w yb sb N ys kr sz qu mx qn rt bu wk ou many clock aA stop):=h;have hl:=h.len;have hne:sb≠yb:=aJ h.row h.box (by simp);have HP:Hid (∀y∈ay ys,(kr y).ph<=2\/(kr y).ph=4):=nw;clear h nw;go_enter func177,ntmps177;go_wp2
 go_loopw [2] (fun i wr=>∃j:Nat,j<=N/\i=.int .i64 j/\Hid (dA wr yb sz N qu mx qn rt bu wk ou sb N many clock aA false stop/\AQ wr sb (lets (fun y=>decide ((kr y).ph=4)) (ys.take j)++ys.drop j)/\aF (fun i=>i=sb\/i=yb) w wr)) (fun i _=>N-(intOf i).toNat)
 case atStart=>exact⟨0,Nat.zero_le _,rfl,HH.out.box,by simpa[lets]using HH.out.row,aF.refl _ _⟩
 case round=>
  obtain⟨j,hj,rfl,hH⟩:=hrel;obtain⟨F,R,T⟩:=hH.out;have c9:wr.cell? ⟨yb,9,none⟩=some (.slice (some ⟨sb,0,none⟩) N N):=af F rfl
  by_cases hlt:j<N
  ·have wP:decide ((j:Int)<(N:Int))=true:=by simp;omega
   obtain⟨v,hv⟩:∃v,ys[j]? =some v:=⟨ys[j],by rw[List.getElem?_eq_getElem]⟩
   have eF:(lets (fun y=>decide ((kr y).ph=4)) (ys.take j)++ys.drop j)[j]? =some v:=by rw[List.getElem?_append_right (by simp[lets];omega),List.getElem?_drop];simp only[lets,List.length_map,List.length_take];rw[show j+(j-min j ys.length)=j by omega];exact hv
   have hstep:=xV (gone:=fun y=>decide ((kr y).ph=4)) hv;have hc:wr.cell? ⟨sb,j,none⟩=some (tO v):=af R (gx eF);have fr:=aY R j;have Jq:wr.cell? ⟨yb,16,none⟩=some (.int .i64 aA):=af F rfl;have c17:wr.cell? ⟨yb,17,none⟩=some (.bool false):=af F rfl;have f17:=aY F 17;cases v with
   |none=>
    have HN:Hid (lets (fun y=>decide ((kr y).ph=4)) (ys.take (j+1))++ys.drop (j+1)=lets (fun y=>decide ((kr y).ph=4)) (ys.take j)++ys.drop j):=by show _=_;rw[hstep];exact ko eF
    simp only[tO,Option.map_none]at hc;clear F R T hstep eF hv;go_wp2;refine⟨⟨j+1,by omega,by go_num,hH.out.1,by rw[HN.out];exact hH.out.2.1,hH.out.2.2⟩,?_⟩;simp[intOf];omega
   |some y=>
    have hmem:y∈ay ys:=List.mem_filterMap.2 ⟨some y,List.mem_of_getElem? hv,rfl⟩
    have dX:cE wr y (kr y) 0:=aN T (HH.out.all y hmem) (by
     rintro(e|e)
     ·exact aJ (HH.out.all y hmem) HH.out.row (by simp) e
     ·exact aJ (HH.out.all y hmem) HH.out.box (by simp) e)
    have d5:wr.cell? ⟨y,5,none⟩=some (.slice none 0 0):=af dX rfl;have d2:wr.cell? ⟨y,2,none⟩=some (.int .i64 (kr y).ph):=af dX rfl;simp only[tO,Option.map_some]at hc
    by_cases hp:(kr y).ph=4
    ·have HN:Hid (lets (fun y=>decide ((kr y).ph=4)) (ys.take (j+1))++ys.drop (j+1)=(lets (fun y=>decide ((kr y).ph=4)) (ys.take j)++ys.drop j).set j none):=by
      show _=_;rw[hstep];simp[mI,hp]
     have NS:((kr y).ph==4)=true:=by simpa using hp
     have HZ:Hid (sb≠yb):=hne;have hx:¬yb=sb:=fun e=>hne e.symm;clear F R T hstep eF hv hp dX;cases hs:((aA:Int)==(j:Int))with
     |true=>
      go_wp2;obtain⟨F,R,T⟩:=hH.out;have F1:=aS F hx j (.pointer none);have R1:=aX R j (tO none);rw[Ad,<-HN.out]at R1;refine⟨⟨j+1,by omega,by go_num,aX F1 17 _,aS R1 HZ.out 17 _,(T.set (p:=⟨sb,j,none⟩) (.inl rfl) _).set (p:=⟨yb,17,none⟩) (.inr rfl) _⟩,?_⟩;simp[intOf];omega
     |false=>
      go_wp2;obtain⟨F,R,T⟩:=hH.out;have F1:=aS F hx j (.pointer none);have R1:=aX R j (tO none);rw[Ad,<-HN.out]at R1;refine⟨⟨j+1,by omega,by go_num,F1,R1,T.set (p:=⟨sb,j,none⟩) (.inl rfl) _⟩,?_⟩;simp[intOf];omega
    ·have HN:Hid (lets (fun y=>decide ((kr y).ph=4)) (ys.take (j+1))++ys.drop (j+1)=lets (fun y=>decide ((kr y).ph=4)) (ys.take j)++ys.drop j):=by
      show _=_;rw[hstep];exact ko (by rw[eF];simp[mI,hp])
     have NS:((kr y).ph==4)=false:=by simpa using hp
     have hpc:((kr y).ph==3)=false:=by have:=HP.out y hmem;simp;omega
     clear F R T hstep eF hv hp dX;go_wp2;refine⟨⟨j+1,by omega,by go_num,hH.out.1,by rw[HN.out];exact hH.out.2.1,hH.out.2.2⟩,?_⟩;simp[intOf];omega
  ·have wP:decide ((j:Int)<(N:Int))=false:=by simp;omega
   have HJ:Hid (AQ wr sb (lets (fun y=>decide ((kr y).ph=4)) ys)):=by have:=R;rw[List.take_of_length_le (by omega),List.drop_of_length_le (by omega),List.append_nil]at this;exact this
   clear F R T;go_wp2
   have hs:∀y∈ay (lets (fun y=>decide ((kr y).ph=4)) ys),y∈ay ys:=fun y hy=>by rw[eZ]at hy;exact(List.mem_filter.1 hy).1
   refine cw rfl rfl ⟨rfl,⟨hH.out.1,HJ.out,by simp[lets,hl],?_,fun y hy=>aN hH.out.2.2 (HH.out.all y (hs y hy)) ?_⟩,hH.out.2.2⟩
   ·rw[eZ];exact HH.out.nodup.filter _
   ·rintro(e|e)
    ·exact aJ (HH.out.all y (hs y hy)) HH.out.row (by simp) e
    ·exact aJ (HH.out.all y (hs y hy)) HH.out.box (by simp) e
end
section
open Go.Proofs.Tryz
open Go.RowKit
attribute [local go_sem ↓] Go.wp_at_zero Go.wp_at_succ
attribute [local go_sem] au aj
section
variable {W W':World} {xb sb N:Nat} {cs:List (Option Nat)} {p:aK} {C:Nat->Nat->Prop} {sz qu mx qn rt bu wk ou av clock:Int} {stop:Bool} {j:Nat} {db:Option Addr}
theorem QJ(h:bf W xb sb N cs p C sz qu mx qn rt bu wk ou av clock stop j db){c:Nat}(hc:c∈ay cs)(hp:(p.k c).ph≠4):
  Calls prog 75 #[.pointer (some ⟨c,0,none⟩)] W fun e w'=>e=.returned (.tuple #[])/\bf w' xb sb N cs (p.upd c (p.k c).shut) C sz qu mx qn rt bu wk ou av clock stop j db/\aF (C c) W w':=by
 have hA:=h.all c hc;have hO:=h.owns c hc;obtain⟨v,b1,_⟩:=hA.box;have Rf:=hA.chan;rw[decide_eq_false hp]at Rf;refine(ur c (p.ch c) (p.rb c) _ _ sz N qu mx qn rt bu wk ou _ 0 _ v W b1 Rf).mono ?_;rintro e w' ⟨h1,h2,h3,h4⟩
 have ht:aF (C c) W w':=h4.mono fun i _ hi=>by
  rcases hi with rfl|rfl
  ·exact hO.dO.1
  ·exact hO.dO.2.2.2
 obtain⟨rp,r1,_⟩:=hA.rd;have hnc:∀i o,W.heap[i]? =some o->i≠c->i≠p.ch c->w'.heap[i]? =some o:=fun i o ho e1 e2=>aN h4 ho (by rintro(e|e);exact e1 e;exact e2 e);refine⟨h1,h.client hc ⟨⟨_,h2,World.ownsRow_nil _ _ _ _⟩,⟨rp,⟨hnc _ _ r1.box (aJ r1.box b1 (by simp)) (aJ r1.box Rf (by simp)),?_⟩,fun h=>absurd rfl h⟩,h3⟩ ⟨hO.dO,fun v hv g hg=>?_⟩ ht,ht⟩
 ·obtain⟨es,ck,e1,e2⟩:=r1.uses;exact⟨es,ck,hnc _ _ e1 (aJ e1 b1 (by simp)) (aJ e1 Rf (by simp)),e2⟩
 ·have e:v=.slice none 0 0:=Option.some.inj (hv.symm.trans (aa h2 rfl));rw[e]at hg;cases hg
theorem bf.parts(h:bf W xb sb N cs p C sz qu mx qn rt bu wk ou av clock stop j db){p':aK}(he:∀c∈ay cs,p'.rb c=p.rb c/\p'.mb c=p.mb c/\p'.ch c=p.ch c/\p'.k c=p.k c):bf W xb sb N cs p' C sz qu mx qn rt bu wk ou av clock stop j db:=
 ⟨h.box,h.row,h.len,fun c hc=>by obtain⟨e1,e2,e3,e4⟩:=he c hc;rw[e1,e2,e3,e4];exact h.all c hc,h.nodup,fun c hc=>by obtain⟨e1,e2,e3,e4⟩:=he c hc;rw[e1,e2,e3];exact h.owns c hc,h.apart,h.cG,h.lt⟩
end
theorem DM(xb sb N c:Nat)(cs:List (Option Nat))(p:aK)(C:Nat->Nat->Prop)(sz qu mx qn rt bu wk ou av clock:Int)(stop:Bool)(j:Nat)(db:Option Addr)(u:Int)(w:World)(h:bf w xb sb N cs p C sz qu mx qn rt bu wk ou av clock stop j db)(hN:N<=65535)(hu:p.find cs u=some c)(hg:∀c∈ay cs,(p.k c).ph<=2):
  Calls prog 39 #[.pointer (some ⟨xb,0,none⟩),.int .i64 u] w fun e w'=>e=.returned (.int .i64 0)/\bf w' xb sb N (lets (fun x=>decide (x=c)) cs) p C sz qu mx qn rt bu wk ou av clock stop j db/\aF (fun b=>C c b\/b=sb\/b=xb) w w':=by
 have hm:=aK.mem hu;have Dj:Hid (Calls prog 68 #[.pointer (some ⟨xb,0,none⟩),.int .i64 u] w fun e w'=>e=.returned (.pointer (some ⟨c,0,none⟩))/\Below w.heap.size w w'):=found h hN hu;have HT:Hid (∀W,Below w.heap.size w W->Calls prog 75 #[.pointer (some ⟨c,0,none⟩)] W fun e w'=>e=.returned (.tuple #[])/\bf w' xb sb N cs (p.upd c (p.k c).shut) C sz qu mx qn rt bu wk ou av clock stop j db/\aF (C c) W w'):=fun W hW=>QJ (h.old hW) hm (by have:=hg c hm;omega)
 have HL:Hid (∀W,bf W xb sb N cs (p.upd c (p.k c).shut) C sz qu mx qn rt bu wk ou av clock stop j db->Calls prog 64 #[.pointer (some ⟨xb,0,none⟩)] W fun e w'=>e=.returned (.tuple #[])/\bf w' xb sb N (lets (fun x=>decide (x=c)) cs) p C sz qu mx qn rt bu wk ou av clock stop j db/\aF (fun i=>i=sb\/i=xb) W w'):=fun W hW=>by
  have hgo:lets (fun x=>((p.upd c (p.k c).shut).k x).gone) cs=lets (fun x=>decide (x=c)) cs:=by
   unfold lets;apply List.map_congr_left;intro v hv;cases v with
   |none=>rfl
   |some x=>
    have hx:x∈ay cs:=List.mem_filterMap.2 ⟨some x,hv,rfl⟩
    have e:((p.upd c (p.k c).shut).k x).gone=decide (x=c):=by
     by_cases e:x=c
     ·simp[aK.upd,e,Cl.shut,Cl.gone];decide
     ·have:=hg x hx;simp[aK.upd,e,Cl.gone];omega
    simp only[mI,e]
  have:=DO xb sb N cs (p.upd c (p.k c).shut) C sz qu mx qn rt bu wk ou av clock stop j db W hW hN;rw[hgo]at this;refine this.mono ?_;rintro e w' ⟨h1,h2,h3⟩;refine⟨h1,h2.parts (fun x hx=>?_),h3⟩;rw[eZ]at hx;have hne:x≠c:=by have:=(List.mem_filter.1 hx).2;simpa using this
  exact⟨rfl,rfl,rfl,by simp[aK.upd,hne]⟩
 clear h hu hg;go_enter func39,ntmps39
 go_wp2_with (first
  |(go_at_call 68;refine Dj.out.mono ?_;rintro e w1 ⟨rfl,hb⟩)
  |(go_at_call 75;refine(HT.out _ hb).mono ?_;rintro e w2 ⟨rfl,h2,t2⟩)
  |(go_at_call 64;refine(HL.out _ h2).mono ?_;rintro e w3 ⟨rfl,h3,t3⟩))
 go_ret;exact⟨rfl,h3,((aF.below hb).trans (t2.mono fun _ _ h=>.inl h)).trans (t3.mono fun _ _ h=>.inr h)⟩
end
section
open Go.Proofs.Tryz
open Go.RowKit
theorem OL(k:Cl):k.take 0=k:=by unfold Cl.take;rw[show k.out.extract 0 k.out.size=k.out by simp]
section
variable {W W':World} {xb sb N:Nat} {cs:List (Option Nat)} {p:aK} {C:Nat->Nat->Prop} {sz qu mx qn rt bu wk ou av clock:Int} {stop:Bool} {j:Nat} {db:Option Addr}
theorem yS(h:bf W xb sb N cs p C sz qu mx qn rt bu wk ou av clock stop j db){c:Nat}(hc:c∈ay cs){n:Int}{m:Nat}(hm:(m:Int)=min n (p.k c).out.size):
  Calls prog 69 #[.pointer (some ⟨c,0,none⟩),.int .i64 n] W fun e w'=>e=.returned (.tuple #[.string ((p.k c).out.extract 0 m),.int .i64 0])/\bf w' xb sb N cs (p.upd c ((p.k c).take m)) C sz qu mx qn rt bu wk ou av clock stop j db/\aF (C c) W w'/\iR (C c) c W w':=by
 have hA:=h.all c hc;have hO:=h.owns c hc;obtain⟨v,b1,b2⟩:=hA.box
 by_cases h0:m=0
 ·subst h0;obtain⟨oa,cap,rfl⟩:=fG b2
  have hcap:(p.k c).out.size<=cap/\cap<=maxLen:=by
   rcases b2.2 with⟨e,e0⟩|⟨g,cap',cur,e,_,_,h4,h5,_⟩
   ·obtain⟨_,_,e3⟩:=Value.slice.inj e;exact⟨by omega,by unfold maxLen;omega⟩
   ·obtain⟨_,_,e3⟩:=Value.slice.inj e;exact⟨by omega,by omega⟩
  refine(take_zero c _ _ _ cap oa sz N qu mx qn rt bu wk ou 0 (p.k c) n W hA b1 hcap.1 hcap.2 hm.symm).mono ?_;rintro e w' ⟨h1,h2,h3,h4⟩;have ht:aF (C c) W w':=h3.mono fun i _ e=>e▸hO.dO.1;refine⟨?_,?_,ht,iR.vq h3 (h.lt c hc) fun _ _ e=>e⟩
  ·rw[h1,show(p.k c).out.extract 0 0=⟨#[]⟩ from ByteArray.ext (by simp)]
  ·rw[OL];exact h.client hc h2 (hO.box (World.cell?_of_block (a:=⟨c,16,none⟩) h4)) ht
 ·rcases b2.2 with⟨e,e0⟩|⟨g,cap,cur,rfl,_,hrow,hcap,hmx,hsz,htk⟩
  ·exfalso;omega
  ·have hgC:C c g:=hO.out _ (aa b1 rfl) g rfl;refine(Jg c _ _ _ g cap cur sz N qu mx qn rt bu wk ou 0 (p.k c) n m W hA b1 hrow (by omega) hcap hmx (by rw[Nat.mul_one]at htk;exact htk) (by omega) hm).mono ?_;rintro e w' ⟨h1,h2,h3,⟨cur',hr',hv'⟩,h5⟩
   have ht:aF (C c) W w':=h3.mono fun i _ hi=>by
    rcases hi with rfl|rfl
    ·exact hO.dO.1
    ·exact hgC
   have Vj:iR (C c) c W w':=fun b hb hne=>by
    by_cases e:b=g
    ·subst e;exact .inr ⟨cur,cur',_,hrow,hr',hv'⟩
    ·exact .inl (h3.block b (h.lt c hc b hb) fun hx=>hx.elim hne e)
   refine⟨h1,h.client hc h2 ⟨hO.dO,fun v hv g' hg'=>?_⟩ ht,ht,Vj⟩;have e:v=.slice (some ⟨g,0,none⟩) ((p.k c).out.size-m) cap:=Option.some.inj (hv.symm.trans (aa h5 rfl));rw[e]at hg';cases hg';exact hgC
theorem Bu(h:bf W xb sb N cs p C sz qu mx qn rt bu wk ou av clock stop j db){c:Nat}{n:Int}(hn:n<0):
  Calls prog 69 #[.pointer (some ⟨c,0,none⟩),.int .i64 n] W fun e w'=>e=.returned (.tuple #[.string ⟨#[]⟩,.int .i64 5])/\bf w' xb sb N cs p C sz qu mx qn rt bu wk ou av clock stop j db/\aF (C c) W w'/\iR (C c) c W w':=by
 refine(Mw c n W (by simpa using hn)).mono ?_;rintro e w' ⟨h1,rfl⟩;exact⟨h1,h,aF.refl _ _,fun b _ _=>.inl rfl⟩
end
theorem Ku(xb sb N c:Nat)(cs:List (Option Nat))(p:aK)(C:Nat->Nat->Prop)(sz qu mx qn rt bu wk ou av clock:Int)(stop:Bool)(j:Nat)(db:Option Addr)(u n:Int)(m:Nat)(w:World)(h:bf w xb sb N cs p C sz qu mx qn rt bu wk ou av clock stop j db)(hN:N<=65535)(hu:p.find cs u=some c)(hg:∀c∈ay cs,(p.k c).ph<=2)(hm:(m:Int)=min n (p.k c).out.size):
  Calls prog 33 #[.pointer (some ⟨xb,0,none⟩),.int .i64 u,.int .i64 n] w fun e w'=>e=.returned (.tuple #[.string ((p.k c).out.extract 0 m),.int .i64 0])/\bf w' xb sb N cs (p.upd c ((p.k c).take m)) C sz qu mx qn rt bu wk ou av clock stop j db/\aF (fun b=>C c b\/b=sb\/b=xb) w w'/\iR (C c) c w w':=by
 refine BD xb sb N c cs p _ C sz qu mx qn rt bu wk ou av clock stop j db u n 0 _ w h hN hu (fun x hx=>?_) (fun W hW=>yS (h.old hW) (aK.mem hu) hm);have h1:=hg x hx;unfold Cl.gone;refine decide_eq_false (fun h2=>?_)
 have:((p.upd c ((p.k c).take m)).k x).ph=(p.k x).ph:=by
  unfold aK.upd;dsimp only;split
  ·rename_i e;rw[e];rfl
  ·rfl
 omega
theorem GN(xb sb N c:Nat)(cs:List (Option Nat))(p:aK)(C:Nat->Nat->Prop)(sz qu mx qn rt bu wk ou av clock:Int)(stop:Bool)(j:Nat)(db:Option Addr)(u n:Int)(w:World)(h:bf w xb sb N cs p C sz qu mx qn rt bu wk ou av clock stop j db)(hN:N<=65535)(hu:p.find cs u=some c)(hg:∀c∈ay cs,(p.k c).ph<=2)(hn:n<0):
  Calls prog 33 #[.pointer (some ⟨xb,0,none⟩),.int .i64 u,.int .i64 n] w fun e w'=>e=.returned (.tuple #[.string ⟨#[]⟩,.int .i64 5])/\bf w' xb sb N cs p C sz qu mx qn rt bu wk ou av clock stop j db/\aF (fun b=>C c b\/b=sb\/b=xb) w w'/\iR (C c) c w w':=
 BD xb sb N c cs p p C sz qu mx qn rt bu wk ou av clock stop j db u n 5 _ w h hN hu (fun x hx=>decide_eq_false (fun h2=>by have:=hg x hx;omega)) (fun W hW=>Bu (h.old hW) hn)
theorem eI{cs:List (Option Nat)}{j c:Nat}(hj:cs[j]? =some none):∀x,x∈ay (cs.set j (some c))↔x=c\/x∈ay cs:=by
 intro x;unfold ay;simp only[List.mem_filterMap,id,exists_eq_right];constructor
 ·intro h;obtain⟨i,hi⟩:=List.mem_iff_getElem?.1 h;rw[List.getElem?_set]at hi;split at hi
  ·split at hi
   ·cases hi;exact .inl rfl
   ·cases hi
  ·exact .inr (List.mem_iff_getElem?.2 ⟨i,hi⟩)
 ·rintro(rfl|h)
  ·exact List.mem_iff_getElem?.2 ⟨j,by rw[List.getElem?_set_self (List.getElem?_eq_some_iff.1 hj).1]⟩
  ·obtain⟨i,hi⟩:=List.mem_iff_getElem?.1 h;have hne:j≠i:=fun e=>by subst e;rw[hj]at hi;cases hi
   exact List.mem_iff_getElem?.2 ⟨i,by rw[List.getElem?_set_ne hne];exact hi⟩
theorem xW{cs:List (Option Nat)}{j c:Nat}(hj:cs[j]? =some none)(hn:(ay cs).Nodup)(hc:c∉ay cs):(ay (cs.set j (some c))).Nodup:=by
 obtain⟨hlt,hv⟩:=List.getElem?_eq_some_iff.1 hj;have e:cs=cs.take j++none::cs.drop (j+1):=by rw[<-hv,<-List.drop_eq_getElem_cons hlt,List.take_append_drop]
 have e2:cs.set j (some c)=cs.take j++some c::cs.drop (j+1):=List.set_eq_take_append_cons_drop▸(by simp[hlt])
 have s1:ay cs=ay (cs.take j)++ay (cs.drop (j+1)):=by
  conv=>lhs;rw[e]
  simp[ay]
 have s2:ay (cs.set j (some c))=ay (cs.take j)++c::ay (cs.drop (j+1)):=by rw[e2];simp[ay]
 rw[s1]at hn hc;rw[s2];rw[List.nodup_append]at hn⊢;obtain⟨n1,n2,n3⟩:=hn;simp only[List.mem_append,not_or]at hc;refine⟨n1,List.nodup_cons.2 ⟨hc.2,n2⟩,fun a ha b hb=>?_⟩;rcases List.mem_cons.1 hb with rfl|hb
 ·exact fun e=>hc.1 (e▸ha)
 ·exact n3 a ha b hb
end
section
open Go.Proofs.Tryz
open Go.RowKit
attribute [local go_sem ↓] Go.wp_at_zero Go.wp_at_succ
attribute [local go_sem] au aj
def gJ(kr:Nat->Cl)(y:Nat)(k:Cl):Nat->Cl:=fun x=>if x=y then k else kr x
def lI(kr:Nat->Cl)(ys:List (Option Nat))(u:Int):Option Nat:=(ay ys).find? fun y=>decide ((kr y).no=u)
theorem fX{kr:Nat->Cl}{ys:List (Option Nat)}{u:Int}{y:Nat}(h:lI kr ys u=some y):y∈ay ys:=List.mem_of_find?_eq_some h
section
variable {W W':World} {yb sb N:Nat} {ys:List (Option Nat)} {kr:Nat->Cl} {sz qu mx qn rt bu wk ou many clock:Int} {aA:Nat} {stop:Bool}
theorem bL.client(h:bL W yb sb N ys kr sz qu mx qn rt bu wk ou many clock aA stop){y:Nat}(hy:y∈ay ys){k:Cl}(hb:cE W' y k 0)(ht:aF (fun i=>i=y) W W'):bL W' yb sb N ys (gJ kr y k) sz qu mx qn rt bu wk ou many clock aA stop:=by
 refine⟨aN ht h.box fun e=>aJ h.box (h.all y hy) (by simp) e,aN ht h.row fun e=>aJ h.row (h.all y hy) (by simp) e,h.len,h.nodup,fun x hx=>?_⟩
 by_cases e:x=y
 ·subst e;simp only[gJ,if_true];exact hb
 ·simp only[gJ,e,if_false];exact aN ht (h.all x hx) e
theorem bL.find(h:bL W yb sb N ys kr sz qu mx qn rt bu wk ou many clock aA stop)(hN:N<=65535)(u:Int):
  Calls prog 176 #[.pointer (some ⟨yb,0,none⟩),.int .i64 u] W fun e w'=>e=.returned (tO (lI kr ys u))/\w'=W:=
 IA yb sb N ys (fun y=>(kr y).no) u W (af h.box rfl) h.row h.len hN h.cells
end
theorem ES(yb sb N:Nat)(ys:List (Option Nat))(kr:Nat->Cl)(sz qu mx qn rt bu wk ou many clock:Int)(aA:Nat)(stop:Bool)(u:Int)(s:ByteArray)(w:World)(h:bL w yb sb N ys kr sz qu mx qn rt bu wk ou many clock aA stop)(hN:N<=65535)(hu:lI kr ys u=none):
  Calls prog 125 #[.pointer (some ⟨yb,0,none⟩),.int .i64 u,.string s] w fun e w'=>e=.returned (.int .i64 2)/\w'=w:=by
 have HI:Hid (Calls prog 176 #[.pointer (some ⟨yb,0,none⟩),.int .i64 u] w fun e w'=>e=.returned (.pointer none)/\w'=w):=by have:=h.find hN u;rw[hu]at this;exact this
 clear h hu;go_enter func125,ntmps125;go_wp2_with (go_at_call 176;refine HI.out.mono ?_;rintro e w1 ⟨rfl,rfl⟩);go_ret;exact⟨rfl,rfl⟩
theorem ER(yb sb N y:Nat)(ys:List (Option Nat))(kr:Nat->Cl)(sz qu mx qn rt bu wk ou many clock:Int)(aA:Nat)(stop:Bool)(u:Int)(s:ByteArray)(w:World)(h:bL w yb sb N ys kr sz qu mx qn rt bu wk ou many clock aA stop)(hN:N<=65535)(hu:lI kr ys u=some y)(hp:(kr y).ph≠4)(hi:(kr y).aO.size<=1024)(hs:s.size<=140737488355328)(hl:1024<(kr y).aO.size+s.size):
  Calls prog 125 #[.pointer (some ⟨yb,0,none⟩),.int .i64 u,.string s] w fun e w'=>e=.returned (.int .i64 6)/\w'=w:=by
 have HI:Hid (Calls prog 176 #[.pointer (some ⟨yb,0,none⟩),.int .i64 u] w fun e w'=>e=.returned (.pointer (some ⟨y,0,none⟩))/\w'=w):=by have:=h.find hN u;rw[hu]at this;exact this
 have hb:=h.all y (fX hu);have c2:w.cell? ⟨y,2,none⟩=some (.int .i64 (kr y).ph):=af hb rfl;have c3:w.cell? ⟨y,3,none⟩=some (.string (kr y).aO):=af hb rfl;have hpI:((kr y).ph==4)=false:=by simpa using hp
 have hd:decide ((1024:Int)<wrap64 (((kr y).aO.size:Int)+(s.size:Int)))=true:=by unfold wrap64;simp;omega
 clear h hu hb hp hl hi hs;go_enter func125,ntmps125;go_wp2_with (go_at_call 176;refine HI.out.mono ?_;rintro e w1 ⟨rfl,rfl⟩);go_ret;exact⟨rfl,rfl⟩
theorem LV(yb sb N y:Nat)(ys:List (Option Nat))(kr:Nat->Cl)(sz qu mx qn rt bu wk ou many clock:Int)(aA:Nat)(stop:Bool)(u:Int)(s:ByteArray)(w:World)(h:bL w yb sb N ys kr sz qu mx qn rt bu wk ou many clock aA stop)(hN:N<=65535)(hu:lI kr ys u=some y)(hp:(kr y).ph≠4)(hl:(kr y).aO.size+s.size<=1024):
  Calls prog 125 #[.pointer (some ⟨yb,0,none⟩),.int .i64 u,.string s] w fun e w'=>e=.returned (.int .i64 0)/\bL w' yb sb N ys (gJ kr y ((kr y).send s)) sz qu mx qn rt bu wk ou many clock aA stop/\aF (fun i=>i=y) w w':=by
 have HI:Hid (Calls prog 176 #[.pointer (some ⟨yb,0,none⟩),.int .i64 u] w fun e w'=>e=.returned (.pointer (some ⟨y,0,none⟩))/\w'=w):=by have:=h.find hN u;rw[hu]at this;exact this
 have hb:=h.all y (fX hu);have c2:w.cell? ⟨y,2,none⟩=some (.int .i64 (kr y).ph):=af hb rfl;have c3:w.cell? ⟨y,3,none⟩=some (.string (kr y).aO):=af hb rfl;have f3:=aY hb 3;have hpI:((kr y).ph==4)=false:=by simpa using hp
 have hd:decide ((1024:Int)<((kr y).aO.size:Int)+(s.size:Int))=false:=by simp;omega
 have UP:¬9223372036854775807<(kr y).aO.size+s.size:=by omega
 have ht:aF (fun i=>i=y) w (w.setCell ⟨y,3,none⟩ (.string ((kr y).aO++s))):=(aF.refl (fun i=>i=y) w).set (p:=⟨y,3,none⟩) rfl _
 have HQ:Hid (bL (w.setCell ⟨y,3,none⟩ (.string ((kr y).aO++s))) yb sb N ys (gJ kr y ((kr y).send s)) sz qu mx qn rt bu wk ou many clock aA stop/\aF (fun i=>i=y) w (w.setCell ⟨y,3,none⟩ (.string ((kr y).aO++s)))):=
  ⟨h.client (fX hu) (dg hb 3 _) ht,ht⟩
 clear h hu hb hp hl ht;go_enter func125,ntmps125;go_wp2_with (go_at_call 176;refine HI.out.mono ?_;rintro e w1 ⟨rfl,rfl⟩);go_ret;exact⟨rfl,HQ.out⟩
theorem EK(yb sb N:Nat)(ys:List (Option Nat))(kr:Nat->Cl)(sz qu mx qn rt bu wk ou many clock:Int)(aA:Nat)(stop:Bool)(u:Int)(w:World)(h:bL w yb sb N ys kr sz qu mx qn rt bu wk ou many clock aA stop)(hN:N<=65535)(hu:lI kr ys u=none):
  Calls prog 127 #[.pointer (some ⟨yb,0,none⟩),.int .i64 u] w fun e w'=>e=.returned (.int .i64 2)/\w'=w:=by
 have HI:Hid (Calls prog 176 #[.pointer (some ⟨yb,0,none⟩),.int .i64 u] w fun e w'=>e=.returned (.pointer none)/\w'=w):=by have:=h.find hN u;rw[hu]at this;exact this
 clear h hu;go_enter func127,ntmps127;go_wp2_with (go_at_call 176;refine HI.out.mono ?_;rintro e w1 ⟨rfl,rfl⟩);go_ret;exact⟨rfl,rfl⟩
theorem EL(yb sb N y:Nat)(ys:List (Option Nat))(kr:Nat->Cl)(sz qu mx qn rt bu wk ou many clock:Int)(aA:Nat)(stop:Bool)(u:Int)(w:World)(h:bL w yb sb N ys kr sz qu mx qn rt bu wk ou many clock aA stop)(hN:N<=65535)(hu:lI kr ys u=some y)(nw:∀y∈ay ys,(kr y).ph<=2):
  Calls prog 127 #[.pointer (some ⟨yb,0,none⟩),.int .i64 u] w fun e w'=>e=.returned (.int .i64 0)/\bL w' yb sb N (lets (fun x=>decide (x=y)) ys) kr sz qu mx qn rt bu wk ou many clock aA stop/\aF (yF yb sb ys) w w':=by
 have hy:=fX hu
 have HI:Hid (Calls prog 176 #[.pointer (some ⟨yb,0,none⟩),.int .i64 u] w fun e w'=>e=.returned (.pointer (some ⟨y,0,none⟩))/\w'=w):=by have:=h.find hN u;rw[hu]at this;exact this
 have HC:Hid (Calls prog 178 #[.pointer (some ⟨y,0,none⟩)] w fun e w'=>e=.returned (.tuple #[])/\bL w' yb sb N ys (gJ kr y (kr y).shut) sz qu mx qn rt bu wk ou many clock aA stop/\aF (fun i=>i=y) w w'):=by refine(vw y (kr y) 0 w (h.all y hy)).mono ?_;rintro e w' ⟨e1,e2,e3⟩;have ht:aF (fun i=>i=y) w w':=⟨e3.os,e3.size,e3.block⟩;exact⟨e1,h.client hy e2 ht,ht⟩
 have HL:Hid (∀W,bL W yb sb N ys (gJ kr y (kr y).shut) sz qu mx qn rt bu wk ou many clock aA stop->Calls prog 177 #[.pointer (some ⟨yb,0,none⟩)] W fun e w'=>e=.returned (.tuple #[])/\bL w' yb sb N (lets (fun x=>decide (x=y)) ys) kr sz qu mx qn rt bu wk ou many clock aA stop/\aF (fun i=>i=sb\/i=yb) W w'):=fun W hW=>by
  refine(nA yb sb N ys _ sz qu mx qn rt bu wk ou many clock aA stop W hW hN fun x hx=>?_).mono ?_
  ·by_cases e:x=y
   ·subst e;simp[gJ,Cl.shut]
   ·simp only[gJ,e,if_false];exact .inl (nw x hx)
  ·rintro e w' ⟨e1,e2,e3⟩
   have hgo:lets (fun x=>decide ((gJ kr y (kr y).shut x).ph=4)) ys=lets (fun x=>decide (x=y)) ys:=by
    unfold lets;apply List.map_congr_left;intro v hv;cases v with
    |none=>rfl
    |some x=>
     have hx:x∈ay ys:=List.mem_filterMap.2 ⟨some x,hv,rfl⟩
     have:decide ((gJ kr y (kr y).shut x).ph=4)=decide (x=y):=by
      by_cases e:x=y
      ·subst e;simp[gJ,Cl.shut]
      ·simp only[gJ,e,if_false];have:=nw x hx;simp;omega
     simp only[mI,this]
   rw[hgo]at e2;refine⟨e1,⟨e2.box,e2.row,e2.len,e2.nodup,fun x hx=>?_⟩,e3⟩;have h1:=e2.all x hx;rw[eZ]at hx;have hne:x≠y:=by simpa using(List.mem_filter.1 hx).2
   simp only[gJ,hne,if_false]at h1;exact h1
 have hB:∀i,i=y->yF yb sb ys i:=fun i e=>.inr (.inr (e▸hy));clear h hu nw;go_enter func127,ntmps127
 go_wp2_with (first
  |(go_at_call 176;refine HI.out.mono ?_;rintro e w1 ⟨rfl,rfl⟩)
  |(go_at_call 178;refine HC.out.mono ?_;rintro e w2 ⟨rfl,h2,t2⟩)
  |(go_at_call 177;refine(HL.out _ h2).mono ?_;rintro e w3 ⟨rfl,h3,t3⟩))
 go_ret;exact⟨rfl,h3,(t2.mono fun i _ e=>hB i e).trans (t3.mono fun i _ e=>e.elim (fun e=>.inr (.inl e)) .inl)⟩
end
end Go.Proofs.YtpobhljcainmdaaGreat
