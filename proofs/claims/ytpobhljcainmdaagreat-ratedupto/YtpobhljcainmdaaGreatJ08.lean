/- Parts of the proof. -/
import Derived.Test.YtpobhljcainmdaaGreatJ07
set_option maxRecDepth 100000
set_option maxHeartbeats 16000000
set_option linter.all false
namespace Go.Proofs.YtpobhljcainmdaaGreat
open Go.Proofs.Tryz renaming prog->ai
open Go Go.Conc Go.RowKit
open Go.ConcR (Payload)
open Go.Proofs.Tryz
open _root_.Or renaming inl->aA,inr->az
open _root_.Option renaming map_none->iA
attribute [local go_sem ↓] Go.wp_at_zero Go.wp_at_succ
attribute [local go_sem] cz cE Dj Dl vB 
open Go renaming World->aq,Value->aB,Calls->ax
open Go.RowKit renaming Below->ca,Hid->bc
open _root_.Nat renaming le_refl->aR
open _root_.Option renaming some->Z,none->aj
open Go.Ending renaming returned->aG
open Go.Value renaming bool->ω
open Go.Obj renaming cells->au
open _root_.Bool renaming true->M,false->aa
theorem phaseG(c rb mb ch:Nat)(q v:aB)(g:Cf)(k:Ck)(w:aq)(h:cg w c rb mb ch q v g k):
  ax ai 114 #[jp c] w λe w'=>e=aG (I k.ph)/\w'=w:=by
 obtain⟨rp,h3,h4⟩:=h.rd;have hc:=h.p.chan;have c20:w.cell? (F c 20)=Z (.chan (some ch)):=aD h.p.box rfl;have c11:w.cell? (F c 11)=Z (.pointer (some (F rb 0))):=aD h.p.box rfl;have r2:w.cell? (F rb 2)=Z (I rp):=aD h3.box rfl
 by_cases hp:k.ph=4
 ·rw[decide_eq_true hp]at hc;have HP:bc (k.ph=4):=hp;clear hp h3 h4 h;go_enter func114,ntmps114;go_wp2_with (go_at_call 116;refine(DC c ch _ c20 hc).V ?_;rintro e w1 ⟨rfl,rfl⟩);go_ret;exact⟨by rw[HP.H];rfl,rfl⟩
 ·rw[decide_eq_false hp]at hc;obtain rfl:=h4 hp;clear hp h3 h4 h;go_enter func114,ntmps114;go_wp2_with (first|(go_at_call 116;refine(AM c ch _ c20 hc).V ?_;rintro e w1 ⟨rfl,rfl⟩)|(go_at_call 170;refine(agy rb k.ph _ r2).V ?_;rintro e w1 ⟨rfl,rfl⟩));go_ret;exact⟨rfl,rfl⟩
theorem set_id{W:aq}{b T i:Nat}{x:aF aB}{v:aB}(h:W.1[b]? =Z (au x T (0,0)))(hv:x[i]? =Z v):W.setCell (F b i) v=W:=by
 have hh:(W.setCell (F b i) v).1=W.1:=by
  apply Array.ext
  ·simp
  ·intro j h1 h2
   have e:(W.setCell (F b i) v).1[j]? =W.1[j]? :=by
    by_cases hj:j=b
    ·subst hj;rw[bG h i v,h]
     congr 2
     apply Array.ext';rw[Array.toList_setIfInBounds];exact yZ (by rw[Array.getElem?_toList];exact hv)
    ·exact bC hj
   rw[Array.getElem?_eq_getElem h1,Array.getElem?_eq_getElem h2]at e;exact Option.some.inj e
 show{W with heap:=(W.setCell (F b i) v).1}=W;rw[hh]
abbrev stC:aF aB:=#[I 0,I 0,I 0,I 0,I 0,I 0,I 0,I 0]
abbrev StAt(W:aq)(b:Nat):Prop:=W.1[b]? =Z (au stC 68 (0,0))
theorem st_cells{W:aq}{b:Nat}(h:StAt W b):W.cell? (F b 0)=Z (I 0)/\W.cell? (F b 1)=Z (I 0)/\W.cell? (F b 2)=Z (I 0)/\W.cell? (F b 3)=Z (I 0)/\W.cell? (F b 4)=Z (I 0)/\W.cell? (F b 5)=Z (I 0)/\W.cell? (F b 6)=Z (I 0)/\W.cell? (F b 7)=Z (I 0):=
 ⟨aD h rfl,aD h rfl,aD h rfl,aD h rfl,aD h rfl,aD h rfl,aD h rfl,aD h rfl⟩
theorem below8{w W:aq}(h:ca w.1.size w W)(v0 v1 v2 v3 v4 v5 v6 v7:aB):ca w.1.size w ((((((((W.setCell (F w.1.size 0) v0).setCell (F w.1.size 1) v1).setCell (F w.1.size 2) v2).setCell (F w.1.size 3) v3).setCell (F w.1.size 4) v4).setCell (F w.1.size 5) v5).setCell (F w.1.size 6) v6).setCell (F w.1.size 7) v7):=
 (((((((h.setCell (p:=(F w.1.size 0)) (aR _) v0).setCell (p:=(F w.1.size 1)) (aR _) v1).setCell (p:=(F w.1.size 2)) (aR _) v2).setCell (p:=(F w.1.size 3)) (aR _) v3).setCell (p:=(F w.1.size 4)) (aR _) v4).setCell (p:=(F w.1.size 5)) (aR _) v5).setCell (p:=(F w.1.size 6)) (aR _) v6).setCell (p:=(F w.1.size 7)) (aR _) v7
def Fx.nobody(f:Fx)(u:Int):Prop:=∀(s:Nat) k,f.K[s]? =Z (some k)->k.no≠u
section
variable {w W:aq} {f:Fx} {xb:Nat} {L:cZ}
theorem fx_foundNo(h:aE w f xb L)(hf:f.K.length<=65535){u:Int}(hu:f.nobody u):ax ai 68 #[jp xb,I u] w λe w'=>e=aG (.pointer none)/\ca w.1.size w w':=by
 obtain⟨no,hno⟩:=h.names;have hS:yq w xb L.sb f.K.length (L.cs.map λl=>l.map Lc.c):=⟨aD h.box rfl,by simp[h.cs.len],hf,λj v hj=>aD h.dL (xA hj),⟨_,h.dL⟩⟩;refine(aaT xb L.sb f.K.length _ u no w hS λc hc=>?_).V ?_
 ·obtain⟨t,l',h1,rfl⟩:=za.1 hc;obtain⟨k',h2,_⟩:=h.aC h1;exact(hno t l' k' h1 h2).2
 ·rintro e w' ⟨rfl,hb⟩;refine⟨?_,hb⟩;cases e:(cI (L.cs.map λl=>l.map Lc.c)).find? λc=>decide (no c=u)with
  |none=>rfl
  |some c=>
   have hp:no c=u:=by have:=List.find?_some e;simpa using this
   obtain⟨t,l',h1,rfl⟩:=za.1 (List.mem_of_find?_eq_some e);obtain⟨k',h2,_⟩:=h.aC h1;exact absurd ((hno t l' k' h1 h2).1.y.E hp) (hu t k' h2)
end
abbrev stG(k:Ck):aF aB:=#[I k.ph,I k.aN.size,I k.q.length,I k.bw,I k.tok,I k.de,I k.H.size,I k.sv]
abbrev SgS(c b:Nat)(k:Ck)(qaq:Option Addr)(qcq:Nat)(oa:Option Addr)(ocq:Nat)(W:aq):Prop:=W.cell? (F c 12)=Z (.string k.aN)/\W.cell? (F c 13)=Z (.slice qaq k.q.length qcq)/\W.cell? (F c 14)=Z (I k.bw)/\W.cell? (F c 16)=Z (.slice oa k.H.size ocq)/\W.cell? (F c 17)=Z (I k.tok)/\W.cell? (F c 18)=Z (I k.de)/\W.cell? (F c 19)=Z (I k.sv)
theorem statusG(c rb mb ch:Nat)(q v:aB)(g:Cf)(k:Ck)(w:aq)(h:cg w c rb mb ch q v g k):
  ax ai 70 #[jp c] w λe w'=>e=aG (.agg (stG k))/\ca w.1.size w w':=by
 obtain⟨qaq,qcq,rfl,_⟩:=h.p.row.form;obtain⟨oa,ocq,rfl⟩:=gP h.p.H;have bAq:ca w.1.size w (w.alloc (au stC 68)):=(ca.refl _ _).alloc (aR _) _;have A:=h.old bAq;have hZ:(w.alloc (au stC 68)).1[w.1.size]? =Z (au stC 68 (0,0)):=heap_alloc_new w _;have HP:bc (∀n,ax ai 114 #[jp c] ((w.alloc (au stC 68)).drewN n) λe w'=>e=aG (I k.ph)/\w'=(w.alloc (au stC 68)).drewN n):=λn=>phaseG _ _ _ _ _ _ _ _ _ (A.drewN n);have HS:SgS c w.1.size k qaq qcq oa ocq (w.alloc (au stC 68)):=⟨aD A.p.box rfl,aD A.p.box rfl,aD A.p.box rfl,aD A.p.box rfl,aD A.p.box rfl,aD A.p.box rfl,aD A.p.box rfl⟩;have HB:bc (ca w.1.size w (w.alloc (au stC 68))):=bAq;clear h A bAq;generalize k.q.length=ql at*;go_enter func70,ntmps70
 go_upto_region 1 with fail
 generalize w.alloc (au stC 68)=A0q at*;have z0:A0q.cell? (F w.1.size 0)=Z (I 0):=aD hZ rfl;have z1:A0q.cell? (F w.1.size 1)=Z (I 0):=aD hZ rfl;have z2:A0q.cell? (F w.1.size 2)=Z (I 0):=aD hZ rfl;have z3:A0q.cell? (F w.1.size 3)=Z (I 0):=aD hZ rfl;have z4:A0q.cell? (F w.1.size 4)=Z (I 0):=aD hZ rfl;have z5:A0q.cell? (F w.1.size 5)=Z (I 0):=aD hZ rfl;have z6:A0q.cell? (F w.1.size 6)=Z (I 0):=aD hZ rfl;have z7:A0q.cell? (F w.1.size 7)=Z (I 0):=aD hZ rfl;have fzq:∀i,A0q.frozen? (F w.1.size i)=false:=λi=>bp hZ i;clear hZ;refine gY (S:=SgS c w.1.size k qaq qcq oa ocq) 34 HS λhS=>?_;apply tg [0,2,3,4,5,6,7,8];apply tg [9,10,11,12,13,14,15,16];apply tg [17,18,19,20,21,22,23,24];apply tg [25,26,27,28,29,30,31,32];refine gr 1 λK hK=>?_;go_simp;go_at_call 114;refine(HP.H 1).V ?_;rintro e w2 ⟨rfl,rfl⟩;refine hK.H _ _ HS (λhS2=>?_);clear hK K;apply tg [33];refine gz λK hK=>?_;go_simp;refine hK.H _ _ ?_;refine gl ?_;go_wp2;refine bodyPost_ret (v:=.agg (stG k)) (by simp[results,results70,go_sem,z0,z1,z2,z3,z4,z5,z6,z7]) rfl ⟨rfl,?_⟩;exact below_drewN (below8 HB.H _ _ _ _ _ _ _ _) 1
theorem fx_client_none(w:aq)(f:Fx)(xb:Nat)(L:cZ)(h:aE w f xb L)(hf:f.K.length<=65535)(u:Int)(hu:f.nobody u):
  ax ai 34 #[jp xb,I u] w λe w'=>e=aG (.tuple #[.agg stC,I 2])/\ca w.1.size w w':=by
 have HI':bc (ax ai 68 #[jp xb,I u] (w.alloc (au stC 68)) λe w'=>e=aG (.pointer none)/\ca (w.alloc (au stC 68)).1.size (w.alloc (au stC 68)) w'):=fx_foundNo (h.below ((ca.refl _ w).alloc (aR _) _)) hf hu;clear h hu;go_enter func34,ntmps34;go_wp2_with (go_at_call 68;refine HI'.H.V ?_;rintro e w1 ⟨rfl,hb⟩;have hS:StAt w1 w.1.size:=(hb.block _ (by simp)).E (heap_alloc_new w _);obtain⟨p0,p1,p2,p3,p4,p5q,p6q,p7q⟩:=st_cells hS;have pf:∀j,w1.frozen? (F w.1.size j)=false:=(λj=>bp hS j);have hid:=(fun(i:Nat) (v:aB) (hv:stC[i]? =Z v)=>set_id (i:=i) (v:=v) hS hv));exact bodyPost_ret (v:=.tuple #[.agg stC,I 2]) (by simp[results,results34,go_sem,p0,p1,p2,p3,p4,p5q,p6q,p7q]) rfl ⟨rfl,((ca.refl _ w).alloc (aR _) _).E (hb.V (by simp))⟩
theorem fx_client(w:aq)(f:Fx)(xb:Nat)(L:cZ)(h:aE w f xb L)(hf:f.K.length<=65535)(u:Int)(s:Nat)(k:Ck)(hu:f.Is u s k):
  ax ai 34 #[jp xb,I u] w λe w'=>e=aG (.tuple #[.agg (stG k),I 0])/\ca w.1.size w w':=by
 have h1:=h.below ((ca.refl _ w).alloc (aR _) (au stC 68));obtain⟨l,hl,hC,_⟩:=h1.sat hu.at_;have HI':bc (ax ai 68 #[jp xb,I u] (w.alloc (au stC 68)) λe w'=>e=aG (jp l.c)/\ca (w.alloc (au stC 68)).1.size (w.alloc (au stC 68)) w'):=Mw h1 hf hu hl;have HS:bc (∀W,ca (w.alloc (au stC 68)).1.size (w.alloc (au stC 68)) W->ax ai 70 #[jp l.c] W λe w'=>e=aG (.agg (stG k))/\ca W.1.size W w'):=λW hW=>statusG _ _ _ _ _ _ _ _ W (cg.old hC hW);clear h h1 hu hC hl;generalize l.c=c at*;go_enter func34,ntmps34
 go_wp2_with (first
  |(go_at_call 68;refine HI'.H.V ?_;rintro e w1 ⟨rfl,hb⟩)
  |(go_at_call 70;refine(HS.H _ hb).V ?_;rintro e w2 ⟨rfl,hb2⟩;have hS:StAt w2 w.1.size:=(bT hb2 ((hb.block _ (by simp)).E (heap_alloc_new w _)));obtain⟨p0,p1,p2,p3,p4,p5q,p6q,p7q⟩:=st_cells hS;have pf:∀j,w2.frozen? (F w.1.size j)=false:=(λj=>bp hS j)))
 exact bodyPost_ret (v:=.tuple #[.agg (stG k),I 0]) (by simp[results,results34,go_sem,p0,p1,p2,p3,p4,p5q,p6q,p7q]) rfl ⟨rfl,below8 (((ca.refl _ w).alloc (aR _) _).E ((hb.V (by simp)).E (hb2.V (by have:=hb.size;simp at this;omega)))) _ _ _ _ _ _ _ _⟩
section
variable [an] {P:Program} {l:av FuncId} {Q:Exit->Act->aq->Prop} {a:Act} {u u1:aq} {b fr:Frame} {k:av Item} {cs:av Frame} {ops:aF Oper} {i:Nat} {rest:av Nat} {o:Oper} {Lf:FuncId->av Nat} {f0:FuncId}
theorem FE.nd{d n:Nat}{L:av (Nat×aB)}{op:Op}{ty:TypeId}{ps:String}{af:aF Edge}{gd:Option (Nat×Bool)}{J:aB->aq->Prop}(E:Fa n a L)(c:∀v u1,J v u1->∀a',iD a a' d v->Fa n a' ((d,v)::L)->FO Lf f0 P ops Q rest a' u1)(hr:∀τ,∃v u1,(execOp (gS L) ⟨some d,op,ty,ps,af,gd⟩).run P (u.tp τ)=.ok (.value v) u1/\J v u1)(ho:ops[i]? =Z ⟨some d,op,ty,ps,af,gd⟩:=by rfl) (hw:(iu ops L gd&&iH ops n gd)=true:=by rfl) (hok:yn P l op=true:=by kernel_rfl) (hc:mE (Lf f0) n d L op=true:=by rfl) (hT:vb P l:=by assumption):FO Lf f0 P ops Q (i::rest) a u:=by obtain⟨h1,h2,_⟩:=De hc;refine FO.aeQ hT ho (E.wt (o:=⟨some d,op,ty,ps,af,gd⟩) hw) rfl hok (execOp_congr _ h2 λx hx=>(Av E hc hx).2) (λτ=>?_) (λv u1 hJ=>c v u1 hJ _ (xw a d v) (E.put v h1));rw[execOp_congr _ h2 λx hx=>(Av E hc hx).1];exact hr τ
end
abbrev cntE(u:Nat)(l:av En):Nat:=l.countP λe=>decide (e.no=(u:Int))
def Cap(u:Nat)(B Zq:Int)(f:Fx):Prop:=∀(s:Nat) k,f.K[s]? =Z (some k)->k.no=(u:Int)->(cntE u f.rh:Int)+k.bw+k.tok<=Zq/\k.tok<=B
section
variable {g:Cf} {u n t s m:Nat} {B Zq:Int} {f f':Fx} {k k':Ck} {c c':Cw}
theorem Cap.to(h:Cap u B Zq f)(hl:f'.rh=f.rh){d:Int}(hk:∀(s:Nat) k',f'.K[s]? =Z (some k')->k'.no=(u:Int)->∃k,f.K[s]? =Z (some k)/\k'.no=k.no/\k'.bw+k'.tok<=k.bw+k.tok+d/\(k'.tok<=k.tok\/k'.tok<=B)):Cap u B (Zq+d) f':=λs k' hs hu=>by obtain⟨k,h1,h2,h3⟩:=hk s k' hs hu;have:=h s k h1 (h2▸hu);rw[hl];omega
theorem Cap.at (h:Cap u B Zq f)(hk:f.K[s]? =Z (some k))(hK:f'.K=f.K.set s (some k'))(hl:f'.rh=f.rh)(hn:k'.no=k.no)(ht:k'.bw+k'.tok<=k.bw+k.tok)(h2:k'.tok<=k.tok):Cap u B Zq f':=by
 have:=h.to (d:=0) hl λt x hx hu=>by
  rw[hK]at hx;rcases oy hx with⟨rfl,rfl⟩|⟨_,e⟩
  ·exact⟨k,hk,hn,by omega⟩
  ·exact⟨x,e,rfl,by omega⟩
 rwa [Int.add_zero]at this
theorem Cap.bQ(h:Cap u B Zq f)(j:Nat):Cap u B Zq (f.bQ j):=uU (P:=Cap u B Zq) (λb a hb=>by
 unfold Fx.dP;split
 ·split
  ·exact λs k hk=>hb s k (xD hk).2
  ·exact hb
 ·exact hb) _ _ h
theorem Cap.se(h:Cap u B Zq f)(hs:f.stop=false):Cap u B Zq f.se:=by
 unfold Fx.se;rw[if_neg (by simp[hs])];refine uU (P:=Cap u B Zq) (λb a hb=>?_) _ _ ?_
 ·unfold Fx.eV;split
  ·rename_i k hk;exact hb.at (k':=k.num b.acc) hk rfl rfl rfl (Int.le_refl _) (Int.le_refl _)
  ·exact hb
 ·have:=h.to (f':=f.po) (d:=0) rfl λs k' hs hu=>by
   obtain⟨k,h1,rfl⟩:=wx hs;obtain⟨e1,_,e3,_,_,e6,_⟩:=Iz f.g (k.aN.size+1) k;exact⟨k,h1,e1,by unfold Ck.dQ;rw[e3,e6];omega⟩
  rwa [Int.add_zero]at this
theorem Cap.does(h:Cap u B Zq f)(hc:f.Core){b:Jb}{r:av Jb}(hfl:f.fl=b::r):Cap u B Zq ({f with fl:=r}.does b):=by
 obtain⟨hrun,_,_,k,hk⟩:=hc.jb b (by rw[hfl];exact List.mem_cons_self);rw[sE (f:={f with fl:=r}) hk];have ht:=CZ (({f with fl:=r}:Fx).dk.pj b.rs b.ft).B b.ft (b.rs.take b.rs.length) k (by rw[List.take_length];exact hrun.gd)
 have hno:∀e∈({f with fl:=r}:Fx).lgs b k,e.no=k.no:=λe he=>by obtain⟨e1,h1,rfl⟩:=List.mem_map.1 he;obtain⟨x,_,rfl⟩:=List.mem_map.1 h1;rfl
 have hln:(({f with fl:=r}:Fx).lgs b k).length=b.rs.length:=by rw[List.length_map,List.length_map,List.take_length]
 refine λt x hx hu=>?_;show((cntE u (f.rh++({f with fl:=r}:Fx).lgs b k):Nat):Int)+x.bw+x.tok<=Zq/\x.tok<=B;have hx:(f.K.set b.s (some (k.pr _ b.ft (b.rs.take b.rs.length))))[t]? =Z (some x):=hx;unfold cntE;rw[List.countP_append];rcases oy hx with⟨rfl,rfl⟩|⟨hne,e⟩
 ·have h1:=h _ k hk (ht.no▸hu);have h2:=List.countP_le_length (p:=λe:En=>decide (e.no=(u:Int))) (l:=({f with fl:=r}:Fx).lgs b k);have h3:=ht.bw;have h4:=ht.tok;rw[List.length_take,Nat.min_self]at h3;unfold cntE at h1;omega
 ·have h1:=h _ x e hu
  have h2:(({f with fl:=r}:Fx).lgs b k).countP (λe=>decide (e.no=(u:Int)))=0:=List.countP_eq_zero.2 λe2 he=>by have:=hno e2 he;have h3:k.no≠x.no:=λe3=>hne (hc.one _ _ x k e hk e3.y);simp;omega
  unfold cntE at h1;omega
theorem Cap.fin:∀(n:Nat) (f:Fx),f.nK->Cap u B Zq f->Cap u B Zq (Fx.fin n f)
 |0,f,_,h=>h
 |n+1,f,hD,h=>by
  unfold Fx.fin;split
  ·exact h
  ·rename_i b r e;split
   ·rename_i hd;exact Cap.fin n _ (wY.does f b r hD e hd).2.2 (h.does hD.ov e)
   ·exact h
theorem gather_tok{s:Nat}:∀(n:Nat) (k:Ck) (rs:av Rq),(f.eK s n k rs).1.no=k.no/\(f.eK s n k rs).1.bw+(f.eK s n k rs).1.tok=k.bw+k.tok/\(f.eK s n k rs).1.tok<=k.tok
 |0,k,rs=>⟨rfl,rfl,Int.le_refl _⟩
 |n+1,k,rs=>by
  unfold Fx.eK;split
  ·obtain⟨h1,h2,h3⟩:=gather_tok (s:=s) n k.next (rs++[k.fst])
   have h3:_<=k.tok-1:=h3;refine⟨h1,h2.E ?_,by omega⟩;show k.bw+1+(k.tok-1)=_;omega
  ·exact⟨rfl,rfl,Int.le_refl _⟩
theorem Cap.use(h:Cap u B Zq f):Cap u B Zq f.bg.1:=by
 by_cases e:∃k,f.K[f.aC]? =Z (some k)
 ·obtain⟨k,hk⟩:=e;have ht:(f.aT k).no=k.no/\(f.aT k).bw+(f.aT k).tok=k.bw+k.tok/\(f.aT k).tok=k.tok:=by unfold Fx.aT;split<;>exact⟨rfl,rfl,rfl⟩
  have hK:∀x,(f.om k).K.set f.aC (some x)=f.K.set f.aC (some x):=λx=>by show(f.K.set _ _).set _ _=_;rw[List.set_set]
  rw[Bs hk];split
  ·split
   ·obtain⟨h1,h2,h3⟩:=gather_tok (f:=f.om k) (s:=f.aC) (f.aT k).next.q.length (f.aT k).next [(f.aT k).fst]
    have h3:_<=(f.aT k).tok-1:=h3;refine h.at hk (hK _) rfl (h1.E ht.1) (Int.le_of_eq (h2.E ?_)) Y;show(f.aT k).bw+1+((f.aT k).tok-1)=_;omega
   ·exact h.at hk rfl rfl ht.1 (Int.le_of_eq ht.2.1) (Int.le_of_eq ht.2.2)
  ·exact h.at (k':=(f.aT k).px) hk (hK _) rfl ht.1 (Int.le_of_eq ht.2.1) (Int.le_of_eq ht.2.2)
 ·rw[Js (λk hk=>e ⟨k,hk⟩)];exact h
theorem Cap.rn:∀(n p:Nat) (f:Fx),Cap u B Zq f->Cap u B Zq (Fx.rn n p f)
 |0,p,f,h=>h
 |n+1,p,f,h=>by
  unfold Fx.rn;split
  ·split
   ·exact Cap.rn n 0 _ h.use
   ·exact Cap.rn n (p+1) _ h.use
  ·exact h
theorem Cap.qk(h:Cap u B Zq f)(hB:f.g.bu=B)(hR:f.Rest)(hc:f.ol<1073741824)(hs:f.stop=false):Cap u B (Zq+f.g.rt) f.qk:=by
 have hD:f.early.se.nK:=hR.early hc
 have h1:Cap u B (Zq+f.g.rt) f.early:=h.to (by rw[Dh]) λs k' hs hu=>by rw[Dh]at hs;obtain⟨k,a1,rfl⟩:=wx hs;exact⟨k,a1,rfl,by show k.bw+min (k.tok+f.g.rt) f.g.bu<=_;omega,.inr (by show min (k.tok+f.g.rt) f.g.bu<=_;omega)⟩
 have h2:=h1.se (by rw[Dh];exact hs);exact(Cap.rn _ _ _ (Cap.fin _ _ hD h2)).bQ _
structure Ror(g:Cf)(n u N:Nat)(Zq:Nat->Int)(C0q t0 kdq:Int)(ks:Nat->Option (aF aB))(t:Nat)(f:Fx)(c:Cw):Prop where
 cru:cR g n t f c
 ks:c.ks=ks
 us:u<c.S.length
 hi:f.ol<=C0q+if kdq=2 then(t:Int)-t0 else 0
 cap:∀i,i<N->Cap u g.bu (Zq i+g.rt*(f.ol-C0q)) f
theorem ror_sails(hI:g.Is)(hn:g.sz=4*(n:Int))(N:Nat)(Zq:Nat->Int)(C0q t0 kdq:Int)(ks:Nat->Option (aF aB)):tI g (λk _=>k=2->kdq=2) (Ror g n u N Zq C0q t0 kdq ks):=
 have S:=N4 hI hn;have hi1:∀{t:Nat} {x:Int},(x<=C0q+if kdq=2 then(t:Int)-t0 else 0)->x<=C0q+if kdq=2 then((t+1:Nat):Int)-t0 else 0:=λh=>by split at h<;>omega
 {is:=hI
  run:=λh=>S.run h.cru
  dO:=λh=>S.dO h.cru
  wo:=λh=>S.wo h.cru
  aC:=λh hs ha=>S.aC h.cru hs ha
  stay:=λh=>⟨S.stay h.cru,h.ks,h.us,hi1 h.hi,h.cap⟩
  qk:=fun{t f c} hk h ht=>by
   have hR:=S.run h.cru;have hc:f.ol<1073741824:=by have:=(S.dO h.cru).1;omega
   have e:=(Xu hR.1 hc).2;refine⟨S.qk trivial h.cru ht,h.ks,h.us,?_,λi hi=>?_⟩
   ·have:=h.hi;rw[if_pos (hk rfl)]at this⊢;omega
   ·have:=(h.cap i hi).qk (by rw[hR.2.1]) hR.1 hc hR.2.2.1;rw[hR.2.1]at this;rw[e,show f.ol+1-C0q=f.ol-C0q+1 by omega,Int.mul_add,Int.mul_one,<-Int.add_assoc];exact this
  dG:=fun{t f c f' d'} h h1 h2 h3=>⟨S.dG h.cru h1 h2 h3,h.ks,h.us,by
   rcases h2 with rfl|⟨w,rfl,_⟩
   ·exact hi1 h.hi
   ·exact hi1 h.hi,by
   rcases h2 with rfl|⟨w,rfl,_⟩
   ·exact h.cap
   ·exact h.cap⟩
  full:=λh hj=>S.full h.cru hj
  qm:=λh hj=>S.qm h.cru hj
  enter:=fun{t f c j k} h hj hf hw=>⟨S.enter h.cru hj hf hw,h.ks,by show u<(c.S++[_]).length;have:=h.us;rw[List.length_append];omega,hi1 h.hi,λi hi s x hs hu=>by
   have hK:(f.ku j k).K=f.K.set j (some ((Ck.fresh f.bF k f.g.bu).sp gm)):=by show(f.K.set j _).set j _=_;rw[List.set_set]
   rw[hK]at hs;rcases oy hs with⟨rfl,rfl⟩|⟨_,e⟩
   ·have h1:f.bF=(u:Int):=hu;have:=h.us;have:=(S.run h.cru).2.2.2;omega
   ·exact h.cap i hi s x e hu⟩
  ask:=fun{t f c i sx s k b f' c' r} _ h hs ha hu hck A=>by
   obtain⟨a1,a2⟩:=S.ask trivial h.cru hs ha hu hck A;have e1:f'=(f.sp sx k r.dV).1/\c'.S=c.S/\c'.ks=c.ks:=by rcases A.H with⟨_,_,e,e2⟩|⟨_,_,e,e2⟩<;>exact⟨e,by rw[e2],by rw[e2]⟩
   have hs:f.sp sx k r.dV=(f,2)\/f.sp sx k r.dV=(f,6)\/f.sp sx k r.dV=(f.at sx (k.sp r.dV),0):=by
    unfold Fx.sp;split
    ·exact .inl rfl
    ·split
     ·exact .inr (.inl rfl)
     ·exact .inr (.inr rfl)
   have e2:f'.ol=f.ol/\∀i,i<N->Cap u g.bu (Zq i+g.rt*(f.ol-C0q)) f':=by
    rw[e1.1];rcases hs with e|e|e<;>rw[e]
    ·exact⟨rfl,h.cap⟩
    ·exact⟨rfl,h.cap⟩
    ·exact⟨rfl,λi hi=>(h.cap i hi).at hu.at_ rfl rfl rfl (Int.le_refl _) (Int.le_refl _)⟩
   exact⟨a1,a2,e1.2.2.E h.ks,by rw[e1.2.1];exact h.us,by rw[e2.1];exact hi1 h.hi,by rw[e2.1];exact e2.2⟩
  take:=fun{t f c i sx s k} _ h hs ha hu=>by obtain⟨ts,a1,a2,a3,a4⟩:=S.take trivial h.cru hs ha hu;have e:(f.take sx k 1099511627776).ol=f.ol:=(aqI _ _).2.1;exact⟨ts,a1,a2,a3,a4,h.ks,h.us,by rw[e];exact hi1 h.hi,by rw[e];exact λi hi=>((h.cap i hi).at (k':=k.pl 1099511627776) (f':=f.at sx (k.pl 1099511627776)) hu.at_ rfl rfl (by unfold Ck.pl;split<;>rfl) (by unfold Ck.pl;split<;>exact Int.le_refl _) (by unfold Ck.pl;split<;>exact Int.le_refl _)).bQ _⟩
  leave:=fun{t f c i sx s k} _ h hs ha hu=>by obtain⟨a1,a2⟩:=S.leave trivial h.cru hs ha hu;have e:(f.oX sx k).ol=f.ol:=(aqI _ _).2.1;exact⟨a1,a2,h.ks,by show u<(c.S.set i _).length;rw[List.length_set];exact h.us,by rw[e];exact hi1 h.hi,by rw[e];exact λi hi=>((h.cap i hi).at (k':=k.jd) (f':=f.at sx k.jd) hu.at_ rfl rfl (by unfold Ck.jd;split<;>rfl) (by unfold Ck.jd;split<;>exact Int.le_refl _) (by unfold Ck.jd;split<;>exact Int.le_refl _)).bQ _⟩}
structure Cnt(g:Cf)(u:Nat)(cs:av Int)(f:Fx):Prop where
 cap:∀i,i<cs.length->Cap u g.bu (cs.getD i 0+g.bu+g.rt*((cs.length:Int)-1-i)) f
 ok:∀i j,i<=j->j<cs.length->cs.getD j 0-cs.getD i 0<=g.bu+g.rt*((j:Int)-i)
theorem Ror.cnt{cs:av Int}{C0q kdq:Int}{ks:Nat->Option (aF aB)}(hI:g.Is)(h:Ror g n u cs.length (λi=>cs.getD i 0+g.bu+g.rt*((cs.length:Int)-1-i)) C0q (t:Int) kdq ks (t+1) f c):∀i,i<cs.length->Cap u g.bu (cs.getD i 0+g.bu+g.rt*((cs.length:Int)-1-i)+if kdq=2 then g.rt else 0) f:=λi hi s k hs hu=>by
 have h1:=h.cap i hi s k hs hu;have h2:=h.hi;have hr:=hI.rt;refine⟨Int.le_trans h1.1 (Int.add_le_add_left ?_ _),h1.2⟩;split at h2
 ·have:g.rt*(f.ol-C0q)<=g.rt*1:=Int.mul_le_mul_of_nonneg_left Y Y;split<;>omega
 ·have:g.rt*(f.ol-C0q)<=g.rt*0:=Int.mul_le_mul_of_nonneg_left Y Y;split<;>omega
theorem getD_snoc(cs:av Int)(x:Int)(i:Nat):(cs++[x]).getD i 0=if i=cs.length then x else cs.getD i 0:=by
 simp only[List.getD_eq_getElem?_getD,List.getElem?_append];split
 ·rw[if_neg Y]
 ·split
  ·rename_i e;subst e;simp
  ·rw[List.getElem?_eq_none (by simp;omega),List.getElem?_eq_none Y]
theorem Cnt.snoc{cs:av Int}(h0:0<cs.length)(hI:g.Is)(hR:f.Rest)(hg:f.g=g)(h:∀i,i<cs.length->Cap u g.bu (cs.getD i 0+g.bu+g.rt*((cs.length:Int)-1-i)+g.rt) f)(ho:∀i j,i<=j->j<cs.length->cs.getD j 0-cs.getD i 0<=g.bu+g.rt*((j:Int)-i))(hu:f.Is u s k):Cnt g u (cs++[(cntE u f.rh:Int)+k.bw]) f:=by
 have hk:=(hR.ov.cl s k hu.at_).1;have ht:=hk.tok;have ht2:=(h 0 h0 s k hu.at_ hu.no).2;have hbu:=hI.bu;refine⟨λi hi=>?_,λi j hij hj=>?_⟩
 ·rw[getD_snoc];rw[List.length_append,List.length_singleton]at hi⊢;split
  ·rename_i e;subst e;intro t x hx hxu;have:=hR.ov.one t s x k hx hu.at_ (by rw[hxu,hu.no]);subst this;rw[hu.at_]at hx;cases hx;rw[show((cs.length+1:Nat):Int)-1-(cs.length:Int)=0 by omega,Int.mul_zero];omega
  ·have:=h i Y;rw[show((cs.length+1:Nat):Int)-1-(i:Int)=(cs.length:Int)-1-i+1 by omega,Int.mul_add,Int.mul_one,<-Int.add_assoc];exact this
 ·rw[List.length_append,List.length_singleton]at hj;rw[getD_snoc,getD_snoc];split
  ·rename_i e;subst e;split
   ·rename_i e;subst e;rw[Int.sub_self,Int.sub_self,Int.mul_zero];omega
   ·have:=(h i Y s k hu.at_ hu.no).1;rw[show(cs.length:Int)-(i:Int)=(cs.length:Int)-1-i+1 by omega,Int.mul_add,Int.mul_one];omega
  ·rw[if_neg Y];exact ho i j hij Y
end
section
variable (cb xb:Nat) (g:Cf) (f:Fx) (c:Cw) (L:cZ) (m:Cm) (w:aq) (u:Nat)
theorem dispatched_none(h:bz w g cb xb f c L m)(hf:f.K.length<=65535)(hu:f.nobody u):
  ax ai 23 #[jp cb,I u] w λe w'=>e=aG (I (-1))/\ca w.1.size w w':=by
 have HC:bc (ax ai 34 #[jp xb,I u] w λe w'=>e=aG (.tuple #[.agg stC,I 2])/\ca w.1.size w w'):=fx_client_none w f xb L h.fx hf u hu;have c9:w.cell? (F cb 9)=Z (jp xb):=aD h.cr rfl;clear h hu;go_enter func23,ntmps23;go_wp2_with (go_at_call 34;refine HC.H.V ?_;rintro e w1 ⟨rfl,hb⟩);go_ret;exact⟨rfl,hb.alloc hb.size _⟩
theorem cnt_take{lo:av En}{i:Nat}{e:En}(he:lo[i]? =Z e):cntE u (lo.take (i+1))=cntE u (lo.take i)+if e.no=(u:Int)then 1 else 0:=by have h1:=List.getElem?_eq_some_iff.1 he;rw[List.take_add_one,he];simp[cntE,List.countP_append,List.countP_cons]
theorem dispatched_any(h:bz w g cb xb f c L m)(hf:f.K.length<=65535)(hl:f.rh.length<=1099511627776){s:Nat}{k:Ck}(hu:f.Is u s k)(hk:0<=k.bw/\k.bw<=1024):
  ax ai 23 #[jp cb,I u] w λe w'=>e=aG (I ((cntE u f.rh:Int)+k.bw))/\ca w.1.size w w':=by
 have HC:bc (ax ai 34 #[jp xb,I u] w λe w'=>e=aG (.tuple #[.agg (stG k),I 0])/\ca w.1.size w w'):=fx_client w f xb L h.fx hf u s k hu;have HL:bc (∀W,ca w.1.size w W->ax ai 50 #[jp xb] W (p8 96 7 f.rh.length (f.rh.flatMap mX) W)/\W.cell? (F cb 9)=Z (jp xb)):=λW hW=>⟨aru xb f L W (h.below hW).fx hl,aD (h.below hW).cr rfl⟩;have c9:w.cell? (F cb 9)=Z (jp xb):=aD h.cr rfl;clear h hu;go_enter func23,ntmps23
 go_upto_region 5 with(go_at_call 34;refine HC.H.V ?_;rintro e w1 ⟨rfl,hb⟩)
 generalize hW1:w1.alloc _=W1 at*;have hb1:ca w.1.size w W1:=hW1▸hb.alloc hb.size _;clear hW1;have c9':=(HL.H _ hb1).2
 go_upto_region 6 with(go_at_call 50;refine(HL.H _ hb1).1.V ?_;rintro e w2 ⟨lv,rfl,l1,l2,l3⟩)
 obtain⟨la,lc,elv⟩:=gP l1;subst elv
 have HR:bc (∀i e,f.rh[i]? =Z e->∃lb,la=Z (F lb 0)/\lb<w2.1.size/\w2.cell? (F lb (i*7))=Z (I e.no)):=λi e he=>by have hl:=(List.getElem?_eq_some_iff.1 he).1;obtain⟨lb,cap,e1,hc⟩:=yV l1 Y;cases e1;exact⟨lb,rfl,jJ l1 lb rfl,hc _ _ (A0 he 0 Y)⟩
 have HB:bc (ca w.1.size w w2):=hb1.E (l2.V hb1.size);clear l1 l2 l3 hb hb1 c9 c9' HC HL;have hLl:f.rh.length<=1099511627776:=hl;generalize hLn:f.rh.length=Lnq at*;go_wp2
 go_loopw [7,9] (λnv iv wr=>∃i:Nat,i<=Lnq/\iv=I i/\nv=I ((cntE u (f.rh.take i):Int)+k.bw)/\bc (ca w2.1.size w2 wr)) (λ_ iv _=>Lnq-(intOf iv).toNat)
 case atStart=>exact⟨0,Nat.zero_le _,rfl,by simp[cntE],ca.refl _ _⟩
 case round=>
  obtain⟨i,hi,rfl,rfl,HX⟩:=hrel
  by_cases hlt:i<Lnq
  ·have hli:(i:Int)<(Lnq:Int):=by omega
   have hpp:0<=(i:Int)/\(i:Int)<(Lnq:Int):=by omega
   obtain⟨e,he⟩:∃e,f.rh[i]? =Z e:=⟨_,List.getElem?_eq_getElem Y⟩;obtain⟨lb,el,hlb,k0⟩:=HR.H i e he;subst el;have x0:wr.cell? (F lb (i*7))=Z (I e.no):=(World.cell?_of_block (a:=(F lb (i*7))) (HX.H.block lb hlb)).E k0;have hct:=cnt_take u he;have hle:cntE u (f.rh.take i)<=i:=Nat.le_trans List.countP_le_length (List.length_take_le _ _);generalize cntE u (f.rh.take i)=q at*;clear he k0 hlb
   cases g0q:decide (e.no=(u:Int))<;>(
    have g2q:(e.no==(u:Int))=_:=g0q;go_wp2;refine⟨⟨i+1,by omega,by go_num,?_,HX⟩,by simp[intOf];omega⟩)
   ·rw[hct,if_neg (by simpa using g0q)]
    go_num
   ·rw[hct,if_pos (by simpa using g0q)]
    go_num
  ·have hli:¬(i:Int)<(Lnq:Int):=by omega
   obtain rfl:i=Lnq:=by omega
   have ht:f.rh.take i=f.rh:=by rw[<-hLn,List.take_length]
   have HX3:bc (ca w.1.size w wr):=HB.H.E (HX.H.V HB.H.size);rw[ht];go_wp2;go_ret;exact⟨rfl,HX3⟩
end
def kOne(gb:Nat)(x:aF aB)(b:Nat):Option (aF aB):=if b=gb then some x else none
abbrev csV(cs:av Int):av aB:=cs.map (.int .i64)
def RowG(gb cap:Nat)(x:aF aB)(cs:av Int):Prop:=∀w:aq,w.1[gb]? =Z (au x 3 (0,0))->w.ownsRow 0 3 1 (.slice (some (F gb 0)) cs.length cap) cs.length (csV cs)
theorem RowG.of{w:aq}{v:aB}{cs:av Int}(h:w.ownsRow 0 3 1 v cs.length (csV cs))(h0:0<cs.length):∃gb cap x,v=.slice (some (F gb 0)) cs.length cap/\w.1[gb]? =Z (au x 3 (0,0))/\RowG gb cap x cs:=by
 rcases h.2 with⟨e,e2⟩|⟨g,cap,cur,rfl,h2,h3,h4⟩
 ·omega
 ·exact⟨g,cap,cur,rfl,h3,λw' hw=>⟨h.1,.inr ⟨g,cap,cur,rfl,h2,hw,h4⟩⟩⟩
theorem RowG.at {w:aq}{gb cap i:Nat}{x:aF aB}{cs:av Int}(h:RowG gb cap x cs)(hw:w.1[gb]? =Z (au x 3 (0,0)))(hi:i<cs.length):w.cell? (F gb i)=Z (I (cs.getD i 0)):=by obtain⟨b,cp,e,hc⟩:=yV (h w hw) Y;cases e;exact hc i _ (by rw[List.getElem?_map,List.getElem?_eq_getElem hi,List.getD_eq_getElem?_getD,List.getElem?_eq_getElem hi];rfl)
section
variable {u u':aq} {g:Cf} {cb xb gb gb':Nat} {f:Fx} {c:Cw} {L:cZ} {m:Cm} {x x':aF aB}
theorem bz.hold(T:bz u g cb xb f c L m)(hx:u.1[gb]? =Z (au x 3 (0,0)))(ho:L.own gb=0):bz u g cb xb f {c with ks:=kOne gb x} L m:=
 ⟨T.fx,T.cr,T.gV,T.jW,T.sl,T.ws,T.nd,T.own,T.no,λb yq h=>by
  have h:kOne gb x b=Z yq:=h;unfold kOne at h;split at h
  ·rename_i e;cases h;exact⟨e▸hx,e▸ho⟩
  ·cases h⟩
theorem bz.rehold(T:bz u g cb xb f c L m)(hgb:u.1[gb]? =Z (au x 3 (0,0)))(ho:L.own gb=0)(hk:∀b,b<u.1.size->b≠gb->u'.1[b]? =u.1[b]?)(hz:u.1.size<=u'.1.size)(hx:u'.1[gb']? =Z (au x' 3 (0,0)))(hg:gb'=gb\/u.1.size<=gb'):bz u' g cb xb f {c with ks:=kOne gb' x'} L m:=by
 have ne:∀{b:Nat} {x:aF aB} {V:TypeId},u.1[b]? =Z (au x V (0,0))->V≠3->u'.1[b]? =Z (au x V (0,0)):=λh hV=>(hk _ (Array.getElem?_eq_some_iff.1 h).1 (mC h hgb hV)).E h
 have rk:∀{S k n:Nat} {v:aB} {xs:av aB},u.ownsRow 0 S k v n xs->S≠3->u'.ownsRow 0 S k v n xs:=λh hS=>eF h λb hb=>by obtain⟨x,hx⟩:=yW h hb;exact(ne hx hS).E hx.y
 have T0q:bz u' g cb xb f {c with ks:=λ_=>none} L m:=⟨T.fx.yE λb hb h0=>hk b hb λe=>h0 (e▸ho),ne T.cr aM,rk T.gV aM,rk T.jW aM,λi p s hp hs=>⟨ne (T.sl i p s hp hs).1 aM,(T.sl i p s hp hs).2⟩,λi p s hp hs=>⟨ne (T.ws i p s hp hs).1 aM,(T.ws i p s hp hs).2⟩,T.nd,T.own,λb hb=>T.no b Y,λb x hx=>by cases hx⟩;exact T0q.hold hx (hg.e (λe=>e▸ho) (T.no gb'))
end
section
variable [an] [Payload] {l:av FuncId} {u:aq} {g:Cf} {cb xb n t u0:Nat} {f:Fx} {c:Cw} {m:Cm}
theorem dispatched_x(hT:vb ai l)(hok:an.ok 23)(hR:f.Rest)(hl:f.rh.length<=1099511627776)(B:fj u g cb xb f c m):
  dX ai 23 #[pt cb,I (u0:Nat)] u λe u'=>∃z:Int,e=aG (I z)/\fj u' g cb xb f c m/\(z= -1\/0<=z/\z<=1099511628800/\∃s k,f.Is u0 s k/\z=(cntE u0 f.rh:Int)+k.bw):=by
 refine dX.lift hT hok (λe u τ ⟨z,h1,h2,h3⟩=>⟨z,h1,h2.tp τ,h3⟩) (λe u ⟨z,h,_⟩=>⟨_,h⟩) λτ=>?_;obtain⟨L,T⟩:=B.tp τ;have hsm:=hR.ov.pu
 by_cases h:∃(s:Nat) (k:Ck),f.K[s]? =Z (some k)/\k.no=(u0:Int)
 ·obtain⟨s,k,h1,h2⟩:=h;have hu:f.Is u0 s k:=⟨h1,h2,λt k' ht hk'=>hR.ov.one t s k' k ht h1 (hk'.E h2.y)⟩;have hf:=(hR.ov.cl s k h1).2.1;have h64:=(hR.ov.bw s).2;have hp:=GK f.fl s;have hc:=List.countP_le_length (p:=λe:En=>decide (e.no=(u0:Int))) (l:=f.rh);refine(dispatched_any cb xb g f c L m (u.tp τ) u0 T Y hl hu Y).V ?_;rintro e w' ⟨rfl,hb⟩;exact⟨_,rfl,⟨L,T.below hb⟩,.inr ⟨by omega,by unfold cntE;omega,s,k,hu,rfl⟩⟩
 ·refine(dispatched_none cb xb g f c L m (u.tp τ) u0 T Y λs k h1 h2=>h ⟨s,k,h1,h2⟩).V ?_;rintro e w' ⟨rfl,hb⟩;exact⟨_,rfl,⟨L,T.below hb⟩,.inl rfl⟩
end
theorem exec_appR{P:Program}{w w1:aq}{ρ:Operand->aB}{d:Option Nat}{x yq:Operand}{ats:aF TypeId}{ty:TypeId}{ps:String}{af:aF Edge}{gd:Option (Nat×Bool)}{v:aB}(h:(Builtin.append_ ats ty #[ρ x,ρ yq]).run P w=.ok v w1):(execOp ρ ⟨d,.call ⟨.builtin .append,#[x,yq],ats⟩,ty,ps,af,gd⟩).run P w=.ok (.value v) w1:=by unfold execOp;simp[resolve,invoke,builtin,h]
theorem infoRq:(ai.info? 3).map (λi=>(i.zero,i.size,i.bytes))=Z (some (I 0),1,8):=by kernel_rfl
theorem cR.ri{g:Cf}{n t:Nat}{f:Fx}{c:Cw}(h:cR g n t f c)(ks:Nat->Option (aF aB)):cR g n t f {c with ks:=ks}:=by obtain⟨⟨⟨⟩,v⟩,d⟩:=h;exact⟨⟨by constructor<;>assumption,v⟩,d⟩
section
variable [an] [Payload] {l:av FuncId} {u:aq} {a1:Option Addr} {n1 c1 cb xb:Nat} {g:Cf} {n u0:Nat}
structure RaS(g:Cf)(n u0 cb xb gb cap:Nat)(cs:av Int)(t:Nat)(u:aq):Prop where
 lo:1<=cs.length/\cs.length<=t+1
 iq:∀i,0<=cs.getD i 0/\cs.getD i 0<=1099511628800
 at_:∃x f c m,RowG gb cap x cs/\c.ks=kOne gb x/\cR g n t f c/\u0<c.S.length/\fj u g cb xb f c m/\Cnt g u0 cs f
structure RaE(g:Cf)(n cb xb gb cap:Nat)(cs:av Int)(u:aq):Prop where
 lo:1<=cs.length/\cs.length<=1048577
 iq:∀i,0<=cs.getD i 0/\cs.getD i 0<=1099511628800
 ok:∀i j,i<=j->j<cs.length->cs.getD j 0-cs.getD i 0<=g.bu+g.rt*((j:Int)-i)
 at_:∃x t f c m,RowG gb cap x cs/\c.ks=kOne gb x/\cR g n t f c/\t<=1048577/\fj u g cb xb f c m
abbrev LRa(a1:Option Addr)(n1 c1 cb u0 gb cap:Nat)(cs:av Int)(r:av (Nat×aB)):av (Nat×aB):=(1,.slice a1 n1 c1)::(7,pt cb)::(8,I (u0:Nat))::(9,.slice (some (F gb 0)) cs.length cap)::r
def RaL(a1:Option Addr)(n1 c1 cb xb u0 n:Nat)(g:Cf)(a:Act)(u:aq):Prop:=∃(i gb cap:Nat) (cs:av Int),Fa 103 a (LRa a1 n1 c1 cb u0 gb cap cs [(10,I (i:Int))])/\i<=n1/\RaS g n u0 cb xb gb cap cs i u
def RaJ(cb xb n:Nat)(g:Cf)(a:Act)(u:aq):Prop:=∃(gb cap:Nat) (cs:av Int),Fa 103 a [(7,pt cb),(9,.slice (some (F gb 0)) cs.length cap)]/\RaE g n cb xb gb cap cs u
theorem ra_steps(G:wH l)(kDq:an.known 22)(oD:an.ok 23/\an.known 23)(hI:g.Is)(hn:g.sz=4*(n:Int))(hst:wN a1 n1)(hn1:n1<=1048576){Q:Exit->Act->aq->Prop}{a:Act}(hQ:∀a u,RaJ cb xb n g a u->Q .normal a u)(h0:RaL a1 n1 c1 cb xb u0 n g a u):
  FX dR 8 ai (dg (kv (dg (dg (dg (dg (dg (nS f8)))))))) Q a u:=by
 have hT:=G.x.fit;refine FX.bk 0 (FX.lp (RaL a1 n1 c1 cb xb u0 n g) (λa _=>yb n1 10 a) h0 ?_);clear h0;rintro a u ⟨i,gb,cap,cs,E,hi,hS⟩;have hl0:=tP (n:=n1) (E.at_ 10 _ rfl);have over:∀a u,Fa 103 a (LRa a1 n1 c1 cb u0 gb cap cs [(10,I (i:Int))])->RaE g n cb xb gb cap cs u->Q .normal a u:=λa u E h=>hQ a u ⟨gb,cap,cs,E.to,h⟩;refine FX.sq (FX.sq (FX.reg [0,1,2,3] ?_));refine FE.ow E λa _ E=>?_;refine FE.bl E λa _ E=>?_;refine FE.ln E λa _ E=>?_;obtain⟨hlo,hin,x,f,c,m,hG,hks,h,hu,B,hC⟩:=hS
 by_cases hlt:i<n1
 ·have hh:(i:Int)<(n1:Int):=by omega
  refine FE.ow (v:=ω M) E λa _ E=>GO.nil ?_;refine FX.cT E (FX.sk ?_)
  replace E:Fa 103 a (LRa a1 n1 c1 cb u0 gb cap cs [(10,I (i:Int))]):=E.to
  obtain⟨tbq,tq,ob,tz,rfl,htw,htz⟩:=hst.resolve_left Y;have hh2:0<=(i:Int)/\(i:Int)<(n1:Int):=by omega
  have hz:=htz i hlt;have hok:=hC.ok;have hR:Ror g n u0 cs.length (λi=>cs.getD i 0+g.bu+g.rt*((cs.length:Int)-1-i)) f.ol (i:Int) (tz i 0) (kOne gb x) i f c:=⟨h,hks,hu,by split<;>omega,λj hj=>by rw[Int.sub_self,Int.mul_zero,Int.add_zero];exact hC.cap j hj⟩;refine FX.sj (λa u=>∃(gb cap:Nat) (cs:av Int),Fa 103 a (LRa (some (F tbq tq)) n1 c1 cb u0 gb cap cs [(10,I (i:Int))])/\RaS g n u0 cb xb gb cap cs (i+1) u) (FX.bk 1 ?_) ?_
  ·refine FX.sq (FX.reg [0,1,2,3,4,5,6] ?_);refine FE.ow E λa _ E=>?_;refine FE.bl E λa _ E=>?_;refine FE.ow E λa _ E=>?_;refine FE.bl (v:=.pointer (some (F tbq (tq+i*4)))) E (hr:=λw=>by go_simp) (he:=λw=>Dm (m:=n1) (c0:=c1) (ad:=(F tbq tq)) (j:=i) w rfl rfl aW hh2) λa _ E=>?_;refine FE.stp (tq:=tq+i*4) (tz:=tz i) htw hz E λa E=>?_;obtain⟨L0,T⟩:=B;refine FE.cp (v0:=pt cb) (k0:=7) E func22 kDq Xs (λρ hρ=>Tl cb _ _ _ _ ρ hρ) ((Tn G (ror_sails hI hn _ _ _ _ _ _) hR Y ⟨L0,T⟩ _ _ _ _ (hz 1 aM).1 (hz 2 aM).1 (hz 3 aM).1 ⟨λe _=>e,λ_ _ _ _ e=>by omega⟩).V ?_);clear T hR hC hu h hks;rintro e u2 ⟨rfl,f,c,hR,L1,m1,T,_⟩;refine⟨_,rfl,λa _ E=>?_⟩;refine FE.ow E λa _ E=>GO.nil ?_;refine FX.sq (FX.sq (FX.reg [0,1] ?_));refine FE.ow E λa _ E=>?_;refine FE.ow (v:=ω aa) E λa _ E=>GO.nil ?_;refine FX.cF E (FX.sk ?_);have hcap:=hR.cnt hI;have hk2:=hR.ks
   replace E:Fa 103 a (LRa (some (F tbq tq)) n1 c1 cb u0 gb cap cs [(10,I (i:Int))]):=E.to
   refine FX.sq (FX.reg [0,1,2,3,4,5] ?_);refine FE.bl E λa _ E=>?_;refine FE.ow E λa _ E=>?_;refine FE.bl (v:=.pointer (some (F tbq (tq+i*4)))) E (hr:=λw=>by go_simp) (he:=λw=>Dm (m:=n1) (c0:=c1) (ad:=(F tbq tq)) (j:=i) w rfl rfl aW hh2) λa _ E=>?_;refine FE.bl E λa _ E=>?_;refine FE.p1 (G:=tq+i*4) htw E (hz 0 aM).2 λa _ E=>?_;have hrest:=hR.cru.ah.bU.rest;have hfew:=hR.cru.ah.bU.dO;have hlog:f.rh.length<=1099511627776:=by have:=hrest.rh;have:=hfew.1;omega
   have hgg:=hR.cru.ah.bU.gg;generalize tz i 0=kdq at*
   by_cases k2:kdq=2
   ·have E9:=E;subst k2;have E:=E9;refine FE.ow (v:=ω M) E λa _ E=>GO.nil ?_;refine FX.cT E (FX.sq (FX.reg [0,1,2,3] ?_))
    iterate 2 refine FE.ow E λa _ E=>?_
    refine FE.cx E oD.2 ((dispatched_x hT oD.1 hrest hlog ⟨L1,T⟩).V ?_);rintro e u3 ⟨z,rfl,B,hz3⟩;refine⟨_,rfl,λa _ E=>?_⟩;refine FE.ow E λa _ E=>GO.nil ?_;refine FX.sq (FX.sq (FX.reg [0,1] ?_));refine FE.ow E λa _ E=>?_;rcases hz3 with rfl|⟨h0,h40,s,k,hu,hzz⟩
    ·refine FE.ow (v:=ω M) E λa _ E=>GO.nil ?_;exact FX.cT E (FX.ex 0 (over a u3 E.to ⟨⟨hlo.1,by omega⟩,hin,hok,x,i+1,f,c,m1,hG,hk2,hR.cru,by omega,B⟩))
    ·have hb:¬z<0:=by omega
     have HZ:=Dv hzz;clear hzz;refine FE.ow (v:=ω aa) E λa _ E=>GO.nil ?_;refine FX.cF E (FX.sk ?_)
     replace E:Fa 103 a (LRa (some (F tbq tq)) n1 c1 cb u0 gb cap cs [(10,I (i:Int)),(12,I z)]):=E.to
     obtain⟨L3q,T3q⟩:=B;obtain⟨hg3,ho3⟩:=T3q.kp gb x (by rw[hk2];simp[kOne]);refine FX.reg [0,1,2,3,4] ?_
     iterate 2 refine FE.ow E λa _ E=>?_
     refine FE.nw (v:=.slice (some ⟨u3.1.size,0,none⟩) 1 1) E (u3.alloc (au #[I z] 3)) (hr:=λτ=>by go_simp;rfl) λa _ E=>?_;obtain⟨nbq,hnb⟩:∃b,b=u3.1.size:=⟨_,rfl⟩;rw[<-hnb]at E;have hnw:(u3.alloc (au #[I z] 3)).1[nbq]? =Z (au #[I z] 3 (0,0)):=vj hnb;have T4q:=T3q.below ((ca.refl _ u3).alloc (aR _) (au #[I z] 3));have hg4:(u3.alloc (au #[I z] 3)).1[gb]? =_:=gD hg3;generalize u3.alloc (au #[I z] 3)=u4 at*;clear hnb T3q hg3;have hro:=hG u4 hg4;refine FE.nd (J:=λv u5q=>u5q.ownsRow 0 3 1 v (cs.length+1) (csV (cs++[z]))/\u4.1.size<=u5q.1.size/\(∀yq,yq<u4.1.size->some yq≠some gb->u5q.1[yq]? =u4.1[yq]?)/\(v.ownBlock=Z gb\/∀b,v.ownBlock=Z b->u4.1.size<=b)) E (λsv' u5q hJ a _ E=>?_) λτ=>?_
     rotate_left
     ·obtain⟨iPq,hiP,hz0,hz1,hz2⟩:=info_parts infoRq;obtain⟨v3,u5q,hr3,k1,k2,k3⟩:=LH (P:=ai) (u4.tp τ) 25 25 3 iPq (I 0) 1 8 underlying25 hiP hz0 hz1 hz2 rfl aM (by simp[Value.cells,mN]) (.slice (some (F gb 0)) cs.length cap) cs.length (csV cs) hro (F nbq 0) 1 1 [I z] rfl (World.news_of_block hnw) (by simp[Value.oneCell']) aM (by unfold maxLen;omega) Y;exact⟨v3,u5q,exec_appR hr3,by unfold csV;rw[List.map_append];exact k1,k2.size,k2.block,k3.at_⟩
     obtain⟨j1,j2,j3,j4q⟩:=hJ;have j1:u5q.ownsRow 0 3 1 sv' (cs++[z]).length (csV (cs++[z])):=by rw[List.length_append];exact j1
     obtain⟨gb',cap',x',rfl,hx',hG'⟩:=RowG.of j1 (by simp);have T5:=T4q.rehold (gb':=gb') (x':=x') hg4 ho3 (λb hb hne=>j3 b hb λe=>hne (Option.some.inj e)) j2 hx' (j4q.imp (λe=>Option.some.inj e) λe=>e gb' rfl);generalize hN':(cs++[z]).length=N' at E;refine FE.ow E λa _ E=>GO.nil ?_;subst hN';have hc2:=Cnt.snoc Y hI hrest hgg (λj hj=>by have:=hcap j hj;rw[if_pos rfl]at this;exact this) hok hu;rw[<-HZ.H]at hc2;refine⟨gb',cap',cs++[z],E.to,⟨by rw[List.length_append,List.length_singleton];omega,λj=>?_,x',f,{c with ks:=kOne gb' x'},m1,hG',rfl,hR.cru.ri _,hR.us,⟨L3q,T5⟩,hc2⟩⟩;rw[getD_snoc];split
     ·exact⟨h0,h40⟩
     ·exact hin j
   ·have b2:(kdq==2)=false:=by simpa using k2
    refine FE.ow (v:=ω aa) E λa _ E=>GO.nil ?_;exact FX.cF E (FX.sk ⟨gb,cap,cs,E.to,⟨⟨hlo.1,by omega⟩,hin,x,f,c,m1,hG,hk2,hR.cru,hR.us,⟨L1,T⟩,⟨λj hj=>by have:=hcap j hj;rw[if_neg k2,Int.add_zero]at this;exact this,hok⟩⟩⟩)
  ·clear B hR hok hC;rintro a u ⟨gb,cap,cs,E,hS⟩;refine FX.reg [0,1,2] ?_;refine FE.ow E λa _ E=>?_;refine FE.ar E λa _ E=>?_;refine FE.ow E λa _ E=>GO.nil ?_;rw[show(i:Int)+1=((i+1:Nat):Int) by simp]at E;refine⟨⟨i+1,gb,cap,cs,E.to,hlt,hS⟩,?_⟩;rw[hl0,tP (n:=n1) (E.at_ 10 _ rfl)];omega
 ·have hh:¬(i:Int)<(n1:Int):=by omega
  refine FE.ow (v:=ω aa) E λa _ E=>GO.nil ?_;exact FX.cF E (FX.ex 0 (over a u E.to ⟨⟨hlo.1,by omega⟩,hin,hC.ok,x,i,f,c,m,hG,hks,h,by omega,B⟩))
theorem ra_loops{gb cap:Nat}{cs:av Int}(G:wH l)(hI:g.Is){Q:Exit->Act->aq->Prop}{a:Act}(hQ:∀a u,Fa 103 a [(7,pt cb)]->RaE g n cb xb gb cap cs u->Q .normal a u)(E:Fa 103 a [(7,pt cb),(9,.slice (some (F gb 0)) cs.length cap),(13,I 0)])(h0:RaE g n cb xb gb cap cs u):
  FX dR 8 ai (dg (kv (dg (dg (dg (dg (dg (dg (nS f8))))))))) Q a u:=by
 have hT:=G.x.fit;refine FX.bk 2 (FX.lp (λa u=>∃i:Nat,Fa 103 a [(7,pt cb),(9,.slice (some (F gb 0)) cs.length cap),(13,I (i:Int))]/\i<=cs.length/\RaE g n cb xb gb cap cs u) (λa _=>yb cs.length 13 a) ⟨0,E,Nat.zero_le _,h0⟩ ?_);clear E h0;rintro a u ⟨i,E,hi,hE⟩;have hlo:=hE.lo;have hl0:=tP (n:=cs.length) (E.at_ 13 _ rfl);refine FX.sq (FX.sq (FX.reg [0,1,2,3] ?_))
 iterate 2 refine FE.ow E λa _ E=>?_
 refine FE.ln E λa _ E=>?_
 by_cases hlt:i<cs.length
 ·have hh:(i:Int)<(cs.length:Int):=by omega
  refine FE.ow (v:=ω M) E λa _ E=>GO.nil ?_;refine FX.cT E (FX.sk ?_)
  replace E:Fa 103 a [(7,pt cb),(9,.slice (some (F gb 0)) cs.length cap),(13,I (i:Int))]:=E.to
  refine FX.sq (FX.bk 3 (FX.sq (FX.reg [0,1] ?_)))
  iterate 1 refine FE.ow E λa _ E=>?_
  refine FE.ow E λa _ E=>GO.nil ?_;refine FX.bk 4 (FX.lp (λa u=>∃k:Nat,Fa 103 a [(7,pt cb),(9,.slice (some (F gb 0)) cs.length cap),(13,I (i:Int)),(14,I (k:Int))]/\i<=k/\k<=cs.length/\RaE g n cb xb gb cap cs u) (λa _=>yb cs.length 14 a) ⟨i,E.to,aR _,hi,hE⟩ ?_);clear E hE;rintro a u ⟨k,E,hik,hk,hE⟩;have hl1:=tP (n:=cs.length) (E.at_ 14 _ rfl);refine FX.sq (FX.sq (FX.reg [0,1,2,3] ?_))
  iterate 2 refine FE.ow E λa _ E=>?_
  refine FE.ln E λa _ E=>?_
  by_cases hkt:k<cs.length
  ·have hh3:(k:Int)<(cs.length:Int):=by omega
   refine FE.ow (v:=ω M) E λa _ E=>GO.nil ?_;refine FX.cT E (FX.sk ?_)
   replace E:Fa 103 a [(7,pt cb),(9,.slice (some (F gb 0)) cs.length cap),(13,I (i:Int)),(14,I (k:Int))]:=E.to
   have hle:=hE.ok i k hik hkt;have hi1:=hE.iq i;have hi2:=hE.iq k;obtain⟨x,t,f,c,m,hG,hks,hC,ht,L,T⟩:=hE.at_;obtain⟨hg,_⟩:=T.kp gb x (by rw[hks];simp[kOne]);have ci:=hG.at hg hlt;have ck:=hG.at hg hkt;have hcr:=T.cr;have hrt:=hI.rt;have hbu:=hI.bu;have hmul:=AR (a:=g.rt) (b:=(k:Int)-i) (A:=16) (B:=1048577) Y Y Y Y;generalize cs.getD i 0=ziq at*;generalize cs.getD k 0=zkq at*;generalize hN:cs.length=N at*;have g1:0<=(i:Int)/\(i:Int)<(N:Int):=by omega
   have g2q:0<=(k:Int)/\(k:Int)<(N:Int):=by omega
   refine FX.sq (FX.bk 5 (FX.sq (FX.dr 25 24 (λj v=>match j with|0=>v=.slice (some (F gb 0)) N cap|1=>v=I (k:Int)|2=>v=iE gb k|3=>v=I zkq|4=>v=.slice (some (F gb 0)) N cap|5=>v=I (i:Int)|6=>v=iE gb i|7=>v=I ziq|8=>v=I (zkq-ziq)|9=>v=pt cb|10=>v=pt cb|11=>v=pt cb|12=>v=iE cb 6|13=>v=I g.bu|14=>v=pt cb|15=>v=pt cb|16=>v=pt cb|17=>v=iE cb 5|18=>v=I g.rt|19=>v=I (k:Int)|20=>v=I (i:Int)|21=>v=I ((k:Int)-i)|22=>v=I (g.rt*((k:Int)-i))|23=>v=I (g.bu+g.rt*((k:Int)-i))|_=>True) E (λu3 hu3 yq hy a is E hj hc=>?_) λu3 hu3 a E hv=>?_)))
   ·replace ci:u3.cell? (F gb i)=Z (I ziq):=by rw[hu3];exact ci
    replace ck:u3.cell? (F gb k)=Z (I zkq):=by rw[hu3];exact ck
    replace hcr:u3.1[cb]? =Z (au (uQ g xb c m) 40 (0,0)):=by rw[hu3];exact hcr
    clear hu3
    match yq,hy with
    |0,_=>exact FE.ow E (dk hc)
    |1,_=>exact FE.ow E (dk hc)
    |2,_=>exact FE.ow (v:=iE gb k) ((E.dd (hj 0 rfl)).dd (hj 1 rfl)) (dk hc)
    |3,_=>exact FE.l1 (E.dd (hj 2 rfl)) ck (dk hc)
    |4,_=>exact FE.ow E (dk hc)
    |5,_=>exact FE.ow E (dk hc)
    |6,_=>exact FE.ow (v:=iE gb i) ((E.dd (hj 4 rfl)).dd (hj 5 rfl)) (dk hc)
    |7,_=>exact FE.l1 (E.dd (hj 6 rfl)) ci (dk hc)
    |8,_=>exact FE.ar ((E.dd (hj 3 rfl)).dd (hj 7 rfl)) (dk hc)
    |9,_=>exact FE.ow E (dk hc)
    |10,_=>exact FE.ow (E.dd (hj 9 rfl)) (dk hc)
    |11,_=>exact FE.ow (E.dd (hj 10 rfl)) (dk hc)
    |12,_=>exact FE.ow (E.dd (hj 11 rfl)) (dk hc)
    |13,_=>exact FE.lc (E.dd (hj 12 rfl)) hcr (dk hc)
    |14,_=>exact FE.ow E (dk hc)
    |15,_=>exact FE.ow (E.dd (hj 14 rfl)) (dk hc)
    |16,_=>exact FE.ow (E.dd (hj 15 rfl)) (dk hc)
    |17,_=>exact FE.ow (E.dd (hj 16 rfl)) (dk hc)
    |18,_=>exact FE.lc (E.dd (hj 17 rfl)) hcr (dk hc)
    |19,_=>exact FE.ow E (dk hc)
    |20,_=>exact FE.ow E (dk hc)
    |21,_=>exact FE.ar ((E.dd (hj 19 rfl)).dd (hj 20 rfl)) (dk hc)
    |22,_=>exact FE.ar ((E.dd (hj 18 rfl)).dd (hj 21 rfl)) (dk hc)
    |23,_=>exact FE.ar ((E.dd (hj 13 rfl)).dd (hj 22 rfl)) (dk hc)
    |m+24,hm=>omega
   ·replace E:=(E.dd (hv 8 rfl)).dd (hv 23 rfl)
    have hE3:RaE g n cb xb gb cap cs u3:=⟨hE.lo,hE.iq,hE.ok,x,t,f,c,m,hG,hks,hC,ht,L,T.old λ_ _=>by rw[hu3]⟩;clear hu3 hv ci ck hcr;have hng:¬g.bu+g.rt*((k:Int)-i)<zkq-ziq:=by omega
    refine eP.one (j:=24) aW λis hK=>FE.ow (v:=ω aa) E λa _ E=>hK a u3 (eP.none aW ?_);refine FX.cF E (FX.sk ?_);subst hN;refine FX.reg [0,1,2] ?_;refine FE.ow E λa _ E=>?_;refine FE.ar E λa _ E=>?_;refine FE.ow E λa _ E=>GO.nil ?_;rw[show(k:Int)+1=((k+1:Nat):Int) by simp]at E;refine⟨⟨k+1,E.to,by omega,hkt,hE3⟩,?_⟩;rw[hl1,tP (n:=cs.length) (E.at_ 14 _ rfl)];omega
  ·have hh3:¬(k:Int)<(cs.length:Int):=by omega
   refine FE.ow (v:=ω aa) E λa _ E=>GO.nil ?_;refine FX.cF E (FX.ex 4 ?_);refine FX.reg [0,1,2] ?_;refine FE.ow E λa _ E=>?_;refine FE.ar E λa _ E=>?_;refine FE.ow E λa _ E=>GO.nil ?_;rw[show(i:Int)+1=((i+1:Nat):Int) by simp]at E;refine⟨⟨i+1,E.to,hlt,hE⟩,?_⟩;rw[hl0,tP (n:=cs.length) (E.at_ 13 _ rfl)];omega
 ·have hh:¬(i:Int)<(cs.length:Int):=by omega
  refine FE.ow (v:=ω aa) E λa _ E=>GO.nil ?_;exact FX.cF E (FX.ex 2 (hQ a u E.to hE))
end
theorem cnt_zero{g:Cf}{f:Fx}{wt:Nat->Int}{m u0:Nat}(h:f.Host g wt m):Cnt g u0 [0] f:=by
 refine⟨λi hi s k hs hu=>?_,λi j hij hj=>?_⟩
 ·have hi:i<1:=hi;obtain rfl:i=0:=by omega
  obtain⟨i1,i2,_⟩:=h.rest.ov.cl s k hs;rw[h.idle.2.1]at i2
  have ht:k.tok=g.bu:=by
   by_cases hlt:s<m
   ·have:=h.uX s hlt;rw[hs]at this;cases this;rfl
   ·have:=h.H s Y (List.getElem?_eq_some_iff.1 hs).1;rw[hs]at this;cases this
  rw[h.zero.1];have i2:k.bw=0:=i2;show((0:Nat):Int)+k.bw+k.tok<=0+g.bu+g.rt*(((1:Nat):Int)-1-((0:Nat):Int))/\k.tok<=g.bu;rw[show((1:Nat):Int)-1-((0:Nat):Int)=0 by decide,Int.mul_zero];omega
 ·have hj:j<1:=hj;obtain rfl:j=0:=by omega
  obtain rfl:i=0:=by omega
  have hbu:=h.rest.ov.g.bu;rw[h.gg]at hbu;show(0:Int)-0<=g.bu+g.rt*(((0:Nat):Int)-((0:Nat):Int));rw[Int.sub_self,Int.sub_self,Int.mul_zero];omega
section
variable [an] [Payload] {l:av FuncId} {u:aq}
theorem rated_f{al a1:Option Addr}{ll clq n1 c1:Nat}{who:Int}(G:wH l)(kBq:an.known 15)(kDq:an.known 22)(kSq:an.known 17)(o:∀f,f∈[18,25,23]->an.ok f/\an.known f)(hll:ll<=maxLen)(hl:Af al ll)(hst:wN a1 n1)(hn1:n1<=1048576)(hw:dy who):
  iT dR ai 8 #[.slice al ll clq,.slice a1 n1 c1,I who] u λe u'=>e=aG (ω M):=by
 have hT:=G.x.fit;refine iT.AU 103 func8 λa E=>?_;refine FX.sq (FX.reg [0] ?_);refine FE.ow E λa _ E=>GO.nil ?_;refine FX.sq (FX.reg [0,1,2] ?_);refine FE.bl E λa _ E=>?_;refine FE.cf E func15 kBq agh (Q4 al ll clq) ((Q5 G hll hl).V ?_);rintro e u ⟨cb,xb,n0,g,f,wt,m,rfl,hI,hH,h1,h2,B⟩;refine⟨_,rfl,λa _ E=>?_⟩;refine FE.ow E λa _ E=>GO.nil ?_;refine FX.sq (FX.sq (FX.reg [0,1] ?_));refine FE.ow E λa _ E=>?_;refine FE.ow (v:=ω aa) E λa _ E=>GO.nil ?_;refine FX.cF E (FX.sk ?_)
 replace E:Fa 103 a [(1,.slice a1 n1 c1),(2,I who),(7,pt cb)]:=E.to
 have hsz:=hI.sz;obtain⟨n,hn⟩:∃n:Nat,g.sz=4*(n:Int):=⟨(g.sz / 4).toNat,by omega⟩;obtain⟨L0,T⟩:=B;obtain⟨lv,wv,ps,qs⟩:=m;obtain⟨la,lc,hlv⟩:=gP T.gV;rw[show(nV wt n0).S.length=n0 by simp]at hlv;have hlv:lv=.slice la n0 lc:=hlv;subst hlv;have hC:=T.cr;have hcl:=hI.cl;have hp:=AX who (n:=(n0:Int)) Y;obtain⟨u0,hu0⟩:∃u0:Nat,eX who n0=(u0:Int):=⟨(eX who n0).toNat,by omega⟩;refine FX.sq (FX.reg [0,1,2,3,4,5,6,7] ?_)
 iterate 4 refine FE.ow E λa _ E=>?_
 refine FE.lc E hC λa _ E=>?_;refine FE.ln E λa _ E=>?_;refine FE.pkz G.k hw E λa _ E=>?_;rw[hu0]at E;refine FE.ow E λa _ E=>GO.nil ?_
 replace E:Fa 103 a [(1,.slice a1 n1 c1),(7,pt cb),(8,I (u0:Nat))]:=E.to
 refine FX.sq (FX.reg [0,1] ?_);refine FE.nw (v:=.slice (some ⟨u.1.size,0,none⟩) 1 1) E (u.alloc (au #[I 0] 3)) (hr:=λτ=>by go_simp;rfl) λa _ E=>?_
 have hro:RowG u.1.size 1 #[I 0] [0]:=λw hw=>by have h:(u.alloc (au #[I 0] 3)).ownsRow 0 3 1 (.slice (some ⟨u.1.size,0,none⟩) 1 1) 1 [I 0]:=World.ownsRow_lit u #[I 0] 1 (Nat.zero_le _) (by unfold maxLen;omega) rfl;refine eF h λb hb=>?_;cases hb;exact hw.E (heap_alloc_new u _).y
 have hnw:(u.alloc (au #[I 0] 3)).1[u.1.size]? =Z (au #[I 0] 3 (0,0)):=heap_alloc_new u _;have T2q:=(T.below ((ca.refl _ u).alloc (aR _) (au #[I 0] 3))).hold hnw (T.no _ (aR _));generalize u.alloc (au #[I 0] 3)=u1 at*;generalize u.1.size=gb at*;clear T hC hnw;refine FE.ow E λa _ E=>GO.nil ?_;refine FX.sq (FX.sq (FX.reg [0] ?_));refine FE.ow E λa _ E=>GO.nil ?_;refine ra_steps (u0:=u0) (n:=n) (g:=g) (xb:=xb) G kDq (o _ aM) hI hn hst hn1 (λa u hJ=>?_) ⟨0,gb,1,[0],E.to,Nat.zero_le _,⟨⟨aR _,aR _⟩,λi=>?_,_,f,_,_,hro,rfl,(hH.cru hI hn h2).ri _,?_,⟨L0,T2q⟩,cnt_zero hH⟩⟩
 rotate_left
 ·rcases i with _|i<;>simp
 ·show u0<(nV wt n0).S.length;rw[show(nV wt n0).S.length=n0 by simp];omega
 clear T2q hro E;obtain⟨gb,cap,cs,E,hE⟩:=hJ;refine FX.sq (FX.sq (FX.reg [0] ?_));refine FE.ow E λa _ E=>GO.nil ?_;refine ra_loops (n:=n) (xb:=xb) G hI (λa u E hE=>?_) E.to hE;obtain⟨x,t,f,c,m,hG,hks,hV,ht,B⟩:=hE.at_;refine FX.sq (FX.reg [0,1,2] ?_);refine FE.ow E λa _ E=>?_;refine FE.cp (v0:=pt cb) (k0:=7) E func17 kSq aqx (λρ hρ=>aqv cb ρ hρ) ((aqR G (o _ aM) hn Y hV B).V ?_);clear B hV hks hG;rintro e u ⟨rfl,t,f,c,m,ht,hV,B⟩;refine⟨_,rfl,λa _ E=>?_⟩;refine FE.ow E λa _ E=>GO.nil ?_
 replace E:Fa 103 a [(7,pt cb),(15,ω M)]:=E.to
 obtain⟨R,_⟩:=hV.ah.row hn Y;refine FX.sq (FX.reg [0,1,2,3,4,5,6] ?_)
 iterate 3 refine FE.ow E λa _ E=>?_
 refine FE.cx E (o _ aM).2 ((arQ hT (o _ aM).1 B hn R).V ?_);rintro e u ⟨sb,rv,rfl,S1,B⟩;refine⟨_,rfl,λa _ E=>?_⟩;refine FE.ow (v:=ω M) E λa _ E=>?_;refine FE.ow (v:=ω M) E λa _ E=>?_;refine FE.ow E λa _ E=>GO.nil ?_;refine FX.rt ⟨rfl,E.defers,ω M,?_,rfl⟩;have h2:=ev (E.at_ 6 _ rfl);simp[results,results8,go_sem,h2]
end
end Go.Proofs.YtpobhljcainmdaaGreat
