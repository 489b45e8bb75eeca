/- Parts of the proof. -/
import Derived.Test.YtpobhljcainmdaaGreatJ10
set_option maxRecDepth 100000
set_option maxHeartbeats 8000000
set_option linter.all false
namespace Go.Proofs.YtpobhljcainmdaaGreat
open Go.World renaming putObj_heap_other->eX,cell?_of_block->fC,ownsRow_nil->um
open Go.Lib renaming strCells->iT
open Go renaming heap_alloc_new->bW,Value->au,wp_region_noPanic->gW,World->an,callsIn_wide->fT,callsIn_of_wp_marks->Vl,run_takeDeferred->Ct,below_drewN->ig
open Go.Value renaming slice->eF,cells->Aa
open Go.NoPanic renaming normal->gp
open Go.IntKind renaming i64->gU
open Go.CallsIn renaming inRound->lV
open Go.Maps renaming setOf->zV,int_keyed->Cb
open _root_.Nat renaming exists_eq_add_of_le->UR,reduceAdd->oJ
open Go.Builtin renaming append_->nx,zeroCells->lU
open Go.WideAt renaming IsKeyLit->Ms
open _root_.List renaming filter_map->UD
open Go.Lit renaming int->Ca
open Go.DataW renaming insert->Ug
open _root_.UInt8 renaming ofNat->zo
open Go.Fence renaming wide->jQ
section
attribute [local go_sem ↓] Go.wp_at_zero Go.wp_at_succ
attribute [local go_sem] bq bg
open Go.Proofs.Tryz
open Go.RowKit
def needs(q:List Rq):Int:=match q with
 |[]=>6
 |r::_=>6+sizeOf' r.m
theorem aas(c n cap oa prom a v r q w)(h:w.cell? (aa c 13)=some v)(y:gX w v (r::q))(hr:r.Ok)(o:n<=4194304)(t:0<=prom/\prom<=4194304)(p:w.cell? (aa c 16)=some (.slice oa n cap))(u:w.cell? (aa c 15)=some (aj prom))(s:w.cell? (aa c 10)=some (aj a)):
  bz 188 #[jp c] w (.bool (decide ((n:Int)+prom+needs (r::q)<=a))):=by
 have g:=aL (Ij c v r q w h y)
 have H:0<=sizeOf' r.m/\sizeOf' r.m<=65539:=by have F:=hr.lR;have G:=hr.pG;unfold sizeOf';split<;>omega
 have HM:Hid (∀W,aB w W->(Calls prog 201 #[.agg (ji r.m.wh r.m.nm r.m.kd r.m.fl r.m.ck r.m.of r.m.ln r.m.dt r.m.er)] W fun e b=>e=.returned (aj (sizeOf' r.m))/\aB w b)/\Calls prog 225 #[jp c,aj (6+sizeOf' r.m)] W fun e b=>e=.returned (.bool (decide ((n:Int)+prom+(6+sizeOf' r.m)<=a)))/\aB w b):=fun W d=>by
  have old:∀(k:Nat) (x:au),w.cell? (aa c k)=some x->W.cell? (aa c k)=some x:=fun k x z=>(fC (d.block c (gM h))).trans z;constructor
  ·refine(EJ r.m W hr.lR hr.pG).mono ?_;rintro e b ⟨rfl,i⟩;exact⟨rfl,d.trans (i.mono d.size)⟩
  ·refine(IC c W oa n cap _ prom a o ⟨ak,ak⟩ t (old _ _ p) (old _ _ u) (old _ _ s)).mono ?_;rintro e b ⟨rfl,m,rfl⟩;exact⟨rfl,ig d _⟩
 have e:needs (r::q)=6+sizeOf' r.m:=rfl;rw[e];generalize sizeOf' r.m=A at*;generalize decide ((n:Int)+prom+(6+A)<=a)=ok at*;obtain⟨⟨N,J,I,E,B,of,ln,C,D⟩,no⟩:=r;go_enter func188,ntmps188
 go_wp2_with (first
  |(go_at_call 78;refine g.out.mono ?_;rintro e K ⟨rfl,f⟩)
  |(go_at_call 201;refine(HM.out _ (f.trans (aR.mono f.size))).1.mono ?_;rintro e L ⟨rfl,j⟩)
  |(go_at_call 225;refine(HM.out _ j).2.mono ?_;rintro e M ⟨rfl,l⟩))
 go_ret;exact⟨rfl,l⟩
theorem aar(c n cap d:Nat)(a i:Option Addr)(prom b:Int)(w:an)(h:w.cell? (aa c 13)=some (.slice a 0 d))(p:n<=4194304)(s:0<=prom/\prom<=4194304)(q:w.cell? (aa c 16)=some (.slice i n cap))(t:w.cell? (aa c 15)=some (aj prom))(r:w.cell? (aa c 10)=some (aj b)):
  bz 188 #[jp c] w (.bool (decide ((n:Int)+prom+needs []<=b))):=by
 have l:=aL (OG c d a w h)
 have HM:Hid (∀W,aB w W->Calls prog 225 #[jp c,aj 6] W fun e j=>e=.returned (.bool (decide ((n:Int)+prom+needs []<=b)))/\aB w j):=fun W f=>by have old:∀(k:Nat) (x:au),w.cell? (aa c k)=some x->W.cell? (aa c k)=some x:=fun k x u=>(fC (f.block c (gM h))).trans u;refine(IC c W i n cap 6 prom b p ⟨ak,ak⟩ s (old _ _ q) (old _ _ t) (old _ _ r)).mono ?_;rintro e j ⟨rfl,m,rfl⟩;exact⟨rfl,ig f _⟩
 generalize decide ((n:Int)+prom+needs []<=b)=ok at*;go_enter func188,ntmps188
 go_wp2_with (first
  |(go_at_call 78;refine l.out.mono ?_;rintro e v ⟨rfl,g⟩)
  |(go_at_call 225;refine(HM.out _ (g.trans (aR.mono g.size))).mono ?_;rintro e y ⟨rfl,o⟩))
 go_ret;exact⟨rfl,o⟩
theorem F4(c ch v q qu ok w)(t:w.cell? (aa c 20)=some (.chan (some ch)))(u:w.heap[ch]? =some (.chan 0 #[] false 0 0 false))(h:w.cell? (aa c 13)=some v)(x:gX w v q)(y:w.cell? (aa c 4)=some (aj qu))(z:∀k,Calls prog 188 #[jp c] (w.drewN k) fun e i=>e=.returned (.bool ok)/\aB w i):
  bz 151 #[jp c] w (.bool (decide ((q.length:Int)<qu)&&ok)):=by
 obtain⟨a,f,rfl,_⟩:=x.form;have o:=gM h;have j:Hid (∀k,Calls prog 116 #[jp c] (w.drewN k) fun e i=>e=.returned (.bool false)/\i=w.drewN k):=fun k=>yN c ch (w.drewN k) t u;have l:Hid (∀W,aB w W->W.cell? (aa c 13)=some (.slice a q.length f)/\W.cell? (aa c 4)=some (aj qu)):=fun W m=>⟨(fC (m.block c o)).trans h,(fC (m.block c o)).trans y⟩;have d:=l.out _ (Below.refl _ _);generalize q.length=L at*
 by_cases p:(L:Int)<qu
 ·have g:=iY p;rw[g,Bool.true_and];go_enter func151,ntmps151
  go_upto_region 1 with fail
  refine dR (S:=fun W=>W.cell? (aa c 13)=some (.slice a L f)/\W.cell? (aa c 4)=some (aj qu)) d fun s=>?_;refine tk 0 ?_;refine rH 1 fun K b=>?_;go_simp;go_at_call 116;refine(j.out 1).mono ?_;rintro e A ⟨rfl,rfl⟩;refine b.out _ _ d (fun r=>?_);clear b K;refine tk 2 ?_;refine tk 3 ?_;refine tk 4 ?_;refine tk 5 ?_;refine tk 6 ?_;refine tk 7 ?_;refine tk 8 ?_;refine tk 9 ?_;refine tk 10 ?_;refine tk 11 ?_;refine tk 12 ?_;refine tk 13 ?_;refine tk 14 ?_;refine tk 15 ?_;refine tk 16 ?_;refine tk 17 ?_;refine rH 18 fun K b=>?_;go_simp;go_at_call 188;refine((aL z).out 1).mono ?_;rintro e C ⟨rfl,n⟩;refine b.out _ _ (l.out _ n) (fun B=>?_);clear b K;refine tk 19 ?_;refine tk 20 ?_;refine cK ?_;go_wp2;go_ret;exact⟨rfl,n⟩
 ·have g:decide ((L:Int)<qu)=false:=ij p;rw[g,Bool.false_and];go_enter func151,ntmps151
  go_upto_region 1 with fail
  refine dR (S:=fun W=>W.cell? (aa c 13)=some (.slice a L f)/\W.cell? (aa c 4)=some (aj qu)) d fun s=>?_;refine tk 0 ?_;refine rH 1 fun K b=>?_;go_simp;go_at_call 116;refine(j.out 1).mono ?_;rintro e A ⟨rfl,rfl⟩;refine b.out _ _ d (fun r=>?_);clear b K;refine tk 2 ?_;refine tk 3 ?_;refine tk 4 ?_;refine tk 5 ?_;refine tk 6 ?_;refine tk 7 ?_;refine tk 8 ?_;refine tk 9 ?_;refine tk 10 ?_;refine tk 11 ?_;refine tk 12 ?_;refine tk 13 ?_;refine tk 14 ?_;refine tk 15 ?_;refine tk 16 ?_;refine aY 17 ?_;refine aY 18 ?_;refine tk 19 ?_;refine tk 20 ?_;refine cK ?_;go_wp2;go_ret;exact⟨rfl,ig (Below.refl _ _) _⟩
def mF(er:UInt8)(a:Int)(d:ByteArray):ByteArray:=⟨#[82]⟩++⟨#[er]⟩++⟨(jg a).toArray⟩++d
theorem RE(er:UInt8)(a d w)(g:0<=a)(h:a<=65535)(o:d.size<=65535):
  bz 202 #[aj (er.toNat:Int),aj a,.string d] w (.string (mF er a d)):=by
 have f:Hid (∀W,aB w W->Calls prog 238 #[aj a] W fun e c=>e=.returned (.string ⟨(jg a).toArray⟩)/\aB w c):=fun W b=>by refine(Jo a W g h).mono ?_;rintro e c ⟨rfl,i⟩;exact⟨rfl,b.trans (i.mono b.size)⟩
 have p:(⟨(jg a).toArray⟩:ByteArray).size=2:=rfl;generalize l:(⟨(jg a).toArray⟩:ByteArray)=m at*;have n:(er.toNat:Int)%256=(er.toNat:Int):=by have:=er.toNat_lt;omega
 have e:mF er a d=⟨#[82]⟩++⟨#[er]⟩++m++d:=by rw[mF,l]
 rw[e];go_enter func202,ntmps202
 go_wp2_with (first
  |(go_at_call 237;refine(JH er _).mono ?_;rintro e q ⟨rfl,j⟩)
  |(go_at_call 238;refine(f.out _ j).mono ?_;rintro e r ⟨rfl,k⟩))
 go_ret;exact⟨rfl,k⟩
end
section
open Go.Proofs.Tryz
structure Cf where
 sz:Int
 cl:Int
 qu:Int
 mx:Int
 qn:Int
 rt:Int
 bu:Int
 wk:Int
 ou:Int
structure Ck where
 no:Int
 wt:Int
 ph:Int
 aO:ByteArray
 q:List Rq
 aZ:Int
 prom:Int
 out:ByteArray
 tok:Int
 de:Int
 sv:Int
 us:List Int
def jd(g:Cf)(m:aQ):ByteArray:=if m.wh=3 then(if m.er=0 then⟨#[]⟩else mF (zo m.er.toNat) m.ck ⟨#[]⟩)else answer g.sz g.mx m
def Ck.shut(k:Ck):Ck:={k with ph:=4,aO:=⟨#[]⟩,q:=[],out:=⟨#[]⟩}
def Ck.hear(g:Cf)(k:Ck)(x:aQ×Int):Ck:=
 {k with ph:=after k.ph x.1,aO:=k.aO.extract x.2.toNat k.aO.size,out:=k.out++jd g x.1,q:=if accepted x.1 then k.q++[⟨x.1,-1⟩]else k.q,us:=if accepted x.1 then k.us++[x.1.ck]else k.us}
def Ck.may(g:Cf)(k:Ck):Prop:=k.ph≠4/\(k.q.length:Int)<g.qu/\(k.out.size:Int)+k.prom+needs k.q<=g.ou
def Ck.read(g:Cf):Nat->Ck->Ck
 |0,k=>k
 |f+1,k=>
  if k.ph≠4/\(k.q.length:Int)<g.qu/\(k.out.size:Int)+k.prom+needs k.q<=g.ou then
   let x:=first g.sz g.mx k.ph k.us k.aO
   if x.2=0 then k else if x.1.wh=4 then k.shut else Ck.read g f (k.hear g x)
  else k
inductive oU(g:Cf)(k:Ck):List (aQ×Int)->Ck->Prop
 |nil:oU g k [] k
 |snoc {pre:List (aQ×Int)} {k1:Ck} {x:aQ×Int} (h:oU g k pre k1) (b:k1.may g) (c:first g.sz g.mx k1.ph k1.us k1.aO=x) (h0:x.2≠0) (a:x.1.wh≠4):oU g k (pre++[x]) (k1.hear g x)
section
variable {g:Cf} {k k1:Ck} {x:aQ×Int} {pre:List (aQ×Int)}
theorem X8(a:k.may g)(c:first g.sz g.mx k.ph k.us k.aO=x)(h0:x.2≠0)(b:x.1.wh≠4)(f):Ck.read g (f+1) k=Ck.read g f (k.hear g x):=by unfold Ck.may at a;rw[Ck.read,aM a];simp only[c,h0,b,dy]
theorem X7(a:k.may g)(c:first g.sz g.mx k.ph k.us k.aO=x)(h0:x.2≠0)(b:x.1.wh=4)(f):Ck.read g (f+1) k=k.shut:=by unfold Ck.may at a;rw[Ck.read,aM a];simp only[c,h0,b,dy,cD]
theorem X4(h0:(first g.sz g.mx k.ph k.us k.aO).2=0)(f):Ck.read g f k=k:=by
 cases f with
 |zero=>rfl
 |succ f=>
  rw[Ck.read];split
  ·simp only[h0,cD]
  ·rfl
theorem Ry(a:¬k.may g)(f):Ck.read g f k=k:=by
 cases f with
 |zero=>rfl
 |succ f=>
  rw[Ck.read];exact aD a
theorem JY(h:oU g k pre k1):∀f,Ck.read g (pre.length+f) k=Ck.read g f k1:=by
 induction h with
 |nil=>intro f;simp
 |@snoc pre k1 x h b c h0 a d=>
  intro f;have e:(pre++[x]).length+f=pre.length+(f+1):=bK;rw[e,d (f+1),X8 b c h0 a]
theorem DK(h:oU g k pre k1):
  k1.ph=((⟨k.ph,k.us,0⟩:St).run pre).ph/\((⟨k.ph,k.us,0⟩:St).run pre).used=k1.us/\k1.aO=k.aO.extract ((⟨k.ph,k.us,0⟩:St).run pre).pos k.aO.size/\((⟨k.ph,k.us,0⟩:St).run pre).pos<=k.aO.size/\
   k1.no=k.no/\k1.wt=k.wt/\k1.tok=k.tok/\k1.aZ=k.aZ/\k1.prom=k.prom/\k1.de=k.de/\k1.sv=k.sv:=by
 induction h with
 |nil=>
  refine⟨rfl,rfl,?_,eE _,rfl,rfl,rfl,rfl,rfl,rfl,rfl⟩;show k.aO=k.aO.extract 0 k.aO.size;simp
 |@snoc pre k1 x h l c h0 j i=>
  obtain⟨d,e,a,n,f⟩:=i;have b:=Ik g.sz g.mx k1.ph k1.us k1.aO;rw[c]at b;have m:k1.aO.size=k.aO.size-((⟨k.ph,k.us,0⟩:St).run pre).pos:=by rw[a];simp[kL]
  rw[St.Kj];refine⟨?_,?_,?_,?_,f⟩
  ·show after k1.ph x.1=after _ x.1;rw[d]
  ·show(if accepted x.1 then _ else _)=if accepted x.1 then _ else _
   rw[e]
  ·show k1.aO.extract x.2.toNat k1.aO.size=k.aO.extract (((⟨k.ph,k.us,0⟩:St).run pre).pos+x.2.toNat) k.aO.size;rw[a];exact Xh _ _ _ ak
  ·show((⟨k.ph,k.us,0⟩:St).run pre).pos+x.2.toNat<=k.aO.size;omega
theorem Pf(h:oU g k pre k1):((⟨k.ph,k.us,0⟩:St).run pre).next g.sz g.mx k.aO=first g.sz g.mx k1.ph k1.us k1.aO:=by
 obtain⟨a,b,c,_⟩:=DK h;unfold St.next
 rw[a,b,c]
end
end
section
open Go.Proofs.Tryz
open Go.RowKit
abbrev oV(c:Int):Prop:=-9223372036854775808<=c/\c<=9223372036854775807
def kW:au->Prop
 |.int _ _=>True
 |.string _=>True
 |.bool _=>True
 |_=>False
def mq(W:an)(v:au):Prop:=∀g,v.ownBlock=some g->∃x T,W.heap[g]? =some (.cells x T (0,0))/\∀u∈x.toList,kW u
theorem zn(W):mq W (.slice none 0 0):=fun g h=>by cases h
theorem mq.keep{W W' v}(h:mq W v)(e:∀g,v.ownBlock=some g->W'.heap[g]? =W.heap[g]?):mq W' v:=fun g a=>by obtain⟨x,T,b,d⟩:=h g a;exact⟨x,T,(e g a).trans b,d⟩
theorem gm{W W':an}{T k n:Nat}{v:au}{xs:List au}(h:W.ownsRow 0 T k v n xs)(i:∀g,v.ownBlock=some g->W'.heap[g]? =W.heap[g]?):W'.ownsRow 0 T k v n xs:=by
 refine⟨h.1,?_⟩;rcases h.2 with h|⟨g,a,b,rfl,d,e,f⟩
 ·exact .inl h
 ·exact .inr ⟨g,a,b,rfl,d,(i g rfl).trans e,f⟩
theorem zb{W:an}{T k n:Nat}{v:au}{xs:List au}(h:W.ownsRow 0 T k v n xs){g:Nat}(a:v.ownBlock=some g):g<W.heap.size:=(h.lt g a).2
theorem DG{z n}(h:∀u∈z.toList,kW u):∀u∈(lU z n).toList,kW u:=fun u a=>by
 simp only[lU,BD,iV]at a;obtain⟨i,b,rfl⟩:=a;have d:i<n*z.size:=by simpa using b
 have h0:0<z.size:=Nat.pos_of_ne_zero fun e=>by rw[e]at d;omega
 have:i %z.size<z.size:=xT _ h0;rw[getElem!_pos z _ this];exact h _ aq
theorem OL(s):∀u∈iT s,kW u:=fun u a=>by simp only[iT,iV]at a;obtain⟨b,_,rfl⟩:=a;trivial
structure CF(w w':an)(v a:au)(news:List au):Prop where
 at_:a.ownBlock=v.ownBlock\/∀g,a.ownBlock=some g->w.heap.size<=g
 SZ:mq w v->(∀u∈news,kW u)->mq w' a
theorem Fz{w g n cap a}{T:TypeId}(h:mq w (.slice (some (aa g 0)) n cap))(e:w.heap[g]? =some (.cells a T (0,0))):∀u∈a.toList,kW u:=by obtain⟨x,f,b,d⟩:=h g rfl;rw[e]at b;cases b;exact d
theorem Nk{P}(w t u ty e)(i:TypeInfo)(f:P.underlying t=some (.slice e))(a:P.underlying u=some .string)(d:P.info? e=some i)(z:i.zero=some (.int .u8 0))(p:i.size=1)(y:i.bytes=1)(v n xs)(o:w.ownsRow 0 e 1 v n xs)(s)(E:n+s.size<=140737488355328):
  ∃r h,(nx #[t,u] ty #[v,.string s]).run P w=.ok r h/\h.ownsRow 0 e 1 r (n+s.size) (xs++iT s)/\w.grownBy h v.ownBlock/\CF w h v r (iT s):=by
 obtain⟨r,h,hr,G,H,_⟩:=Lib.run_append_own_string w 0 t u ty e i f a d z p y v n xs o s (by unfold maxLen;omega) E (eE _);refine⟨r,h,hr,G,H,VW f a d z p y o E hr,fun I l=>?_⟩;have M:xs.length=n:=by simpa using o.1
 rcases o.2 with⟨rfl,rfl⟩|⟨g,A,D,rfl,N,m,R,O,Q,L⟩
 ·by_cases hm:s.size=0
  ·have l:=Lib.run_firstCells_string (P:=P) w 1 s;rw[hm]at l;simp[nx,run_underlying f,run_underlying a,sizeOf,typeInfo,d,p,Builtin.lenOf,hm,l]at hr;rw[<-hr.1];exact zn _
  ·have k:=run_append_nil_string (P:=P) w t u ty e i (.int .u8 0) f a d z s ak ak (by rw[y];omega);rw[k]at hr;cases hr;intro g m;cases m;refine⟨_,_,bW w.drew _,fun x hx=>?_⟩;rw[BC,kU]at hx;rcases hx with hx|hx
   ·simp at hx;obtain⟨b,_,rfl⟩:=hx;trivial
   ·exact DG (fun u a=>by simp[Aa]at a;subst a;trivial) x hx
 ·have B:=Fz I m
  by_cases K:n+s.size<=A
  ·have k:=Lib.run_append_room_string (P:=P) w t u ty e i f a d p g n A D m s K ak;rw[k]at hr;cases hr;intro F C;cases C;refine⟨_,_,setRow_heap w g D _ e _ m,fun x hx=>?_⟩;simp only[kU]at hx;rcases hx with(hx|hx)|hx
   ·exact B x (oF hx)
   ·exact l x hx
   ·exact B x (vS hx)
  ·have J:∀j u,xs[j]? =some u->w.cell? ((⟨g,0,none⟩:Addr).add j)=some u:=o.cells (g:=g) rfl;have k:=Lib.run_append_grow_string (P:=P) w t u ty e i (.int .u8 0) f a d z ⟨g,0,none⟩ n A xs (by rw[p];simpa using M) J s ak ak (by rw[y];exact growslice_fits ak ak);rw[k]at hr;cases hr;intro F C;cases C;refine⟨_,_,bW w.drew _,fun x hx=>?_⟩;simp only[BC,kU]at hx;rcases hx with(hx|hx)|hx
   ·rw[<-L]at hx;exact B x (oF (by simpa using hx))
   ·exact l x (by simpa using hx)
   ·exact DG (fun u a=>by simp[Aa]at a;subst a;trivial) x hx
theorem He{P}(w t ty e)(i:TypeInfo)(z size bytes)(A:P.underlying t=some (.slice e))(r:P.info? e=some i)(F:i.zero=some z)(L:i.size=size)(I:i.bytes=bytes)(V:z.cells.size=size)(T:0<size)(M:∀u∈z.cells.toList,kW u)(v n xs)(y:w.ownsRow 0 e size v n xs)(a m c news)(l:news.length=m*size)(s:∀j u,news[j]? =some u->w.cell? (a.add j)=some u)(G:∀u∈news,u.oneCell'=true)(hm:0<m)(H:n+m<=maxLen)(D:(n+m) *bytes<=140737488355328):
  ∃o d,(nx #[t,t] ty #[v,.slice (some a) m c]).run P w=.ok o d/\d.ownsRow 0 e size o (n+m) (xs++news)/\w.grownBy d v.ownBlock/\CF w d v o news:=by
 obtain⟨o,d,hr,X,Y,_⟩:=run_append_own w 0 t ty e i z size bytes A r F L I V T v n xs y a m c news l s G H D (eE _);subst L;subst I;have ah:n+m<=9223372036854775807:=by simp only[maxLen]at H;omega
 refine⟨o,d,hr,X,Y,?_⟩;rcases y.2 with⟨rfl,rfl⟩|⟨g,B,C,rfl,Z,b,af,aa,Q,U⟩
 ·have k:=run_append_nil w t ty e i z A r F a m c news l s ak ak (by have O:=D;simp at O;omega);rw[k]at hr;cases hr;refine⟨.inr fun g h=>by cases h;exact aV _,fun p f g b=>?_⟩;cases b;refine⟨_,_,bW w.drew _,fun x hx=>?_⟩;rw[BC,kU]at hx;rcases hx with hx|hx
  ·exact f x (by simpa using hx)
  ·exact DG M x hx
 ·by_cases K:n+m<=B
  ·have R:n*i.size+news.length<=C.size:=by rw[l,Q,<-Nat.add_mul];exact xU _ K
   have k:=run_append_room w t ty e i A r g n B C b a m c news l s G K R;rw[k]at hr;cases hr;refine⟨.inl rfl,fun p f N E=>?_⟩;have J:=Fz p b;cases E;refine⟨_,_,setRow_heap w g C _ e _ b,fun x hx=>?_⟩;simp only[kU]at hx;rcases hx with(hx|hx)|hx
   ·exact J x (oF hx)
   ·exact f x hx
   ·exact J x (vS hx)
  ·have S:=y.cells rfl;rw[(run_append_grow w t ty e i z A r F ⟨g,0,none⟩ n B xs y.1 S a m c news l s ak ak (growslice_fits ak D))]at hr;cases hr;refine⟨.inr fun g h=>by cases h;exact aV _,fun p f N E=>?_⟩;cases E;refine⟨_,_,bW w.drew _,fun x hx=>?_⟩;simp only[BC,kU]at hx;rcases hx with(hx|hx)|hx
   ·rw[<-U]at hx;exact(Fz p b) x (oF (by simpa using hx))
   ·exact f x (by simpa using hx)
   ·exact DG M x hx
abbrev iJ(g:Cf)(k:Ck)(rb:Nat)(q out:au)(ch:Nat):Array au:=clG k.no k.wt g.sz g.cl g.qu g.mx g.qn g.rt g.bu g.wk g.ou rb k.aO q k.aZ k.prom out k.tok k.de k.sv ch
structure cj(W:an)(c rb ch:Nat)(q v:au)(g:Cf)(k:Ck):Prop where
 box:W.heap[c]? =some (.cells (iJ g k rb q v ch) 168 (0,0))
 row:gX W q k.q
 out:sQ W v k.out
 tq:mq W q
 tv:mq W v
 chan:W.heap[ch]? =some (.chan 0 #[] (decide (k.ph=4)) 0 0 false)
section
variable {W W':an} {c rb ch:Nat} {q v:au} {g:Cf} {k:Ck}
theorem cj.keep(h:cj W c rb ch q v g k)(e:W'.heap[c]? =W.heap[c]?)(f:W'.heap[ch]? =W.heap[ch]?)(a:∀b,q.ownBlock=some b->W'.heap[b]? =W.heap[b]?)(d:∀b,v.ownBlock=some b->W'.heap[b]? =W.heap[b]?):cj W' c rb ch q v g k:=
 ⟨e.trans h.box,gm h.row a,gm h.out d,h.tq.keep a,h.tv.keep d,f.trans h.chan⟩
theorem cj.dQ(h:cj W c rb ch q v g k):c<W.heap.size/\ch<W.heap.size/\(∀b,q.ownBlock=some b->b<W.heap.size)/\∀b,v.ownBlock=some b->b<W.heap.size:=
 ⟨(aP.1 h.box).1,(aP.1 h.chan).1,fun _ a=>zb h.row a,fun _ a=>zb h.out a⟩
theorem cj.old(h:cj W c rb ch q v g k)(a:aB W W'):cj W' c rb ch q v g k:=
 have l:=h.dQ
 h.keep (a.block _ l.1) (a.block _ l.2.1) (fun b e=>a.block _ (l.2.2.1 b e)) fun b e=>a.block _ (l.2.2.2 b e)
theorem cj.bS{X}(h:cj W c rb ch q v g k)(a:aG X W W')(d:¬X c)(f:¬X ch)(i:∀b,q.ownBlock=some b->¬X b)(j:∀b,v.ownBlock=some b->¬X b):cj W' c rb ch q v g k:=
 have l:=h.dQ
 h.keep (a.block _ l.1 d) (a.block _ l.2.1 f) (fun b e=>a.block _ (l.2.2.1 b e) (i b e)) fun b e=>a.block _ (l.2.2.2 b e) (j b e)
theorem cj.apart(h:cj W c rb ch q v g k):c≠ch/\some c≠q.ownBlock/\some c≠v.ownBlock/\some ch≠q.ownBlock/\some ch≠v.ownBlock/\(∀b,q.ownBlock=some b->some b≠v.ownBlock):=by
 have key:∀{T k n:Nat} {u:au} {l:List au} {b:Nat} {o:Obj},W.ownsRow 0 T k u n l->W.heap[b]? =some o->(∀a,o≠.cells a T (0,0))->some b≠u.ownBlock:=fun{T k n u l b o} hr d r e=>by
  rcases hr.2 with⟨rfl,_⟩|⟨p,m,a,rfl,_,f,_⟩
  ·cases e
  ·cases e;exact r a (dm (d.symm.trans f))
 refine⟨fun e=>?_,key h.row h.box aq,key h.out h.box aq,key h.row h.chan aq,key h.out h.chan aq,fun b d e=>?_⟩
 ·have i:=h.box;have j:=h.chan;rw[e]at i;rw[i]at j;simp at j
 ·rcases h.row.2 with⟨rfl,_⟩|⟨p,m,a,rfl,_,f,_⟩
  ·cases d
  ·cases d;exact key h.out f aq e
theorem cj.put(h:cj W c rb ch q v g k){k':Ck}(i u)(d:(iJ g k rb q v ch).setIfInBounds i u=iJ g k' rb q v ch)(m:k'.q=k.q)(j:k'.out=k.out)(l:k'.ph=k.ph):cj (W.setCell (aa c i) u) c rb ch q v g k':=by
 obtain⟨a1,f,a3,_⟩:=h.apart;have off:∀b,b≠c->(W.setCell (aa c i) u).heap[b]? =W.heap[b]? :=fun b d=>bH d;refine⟨d▸bV h.box i u,?_,?_,h.tq.keep fun b e=>off b fun a=>f (by rw[e,a]),h.tv.keep fun b e=>off b fun a=>a3 (by rw[e,a]),?_⟩
 ·rw[m];exact gm h.row fun b e=>off b fun a=>f (by rw[e,a])
 ·rw[j];exact gm h.out fun b e=>off b fun a=>a3 (by rw[e,a])
 ·rw[l];exact(off ch (cW a1)).trans h.chan
theorem cj.drewN(h:cj W c rb ch q v g k)(n):cj (W.drewN n) c rb ch q v g k:=⟨h.box,h.row,h.out,h.tq,h.tv,h.chan⟩
theorem cj.drew(h:cj W c rb ch q v g k):cj W.drew c rb ch q v g k:=⟨h.box,h.row,h.out,h.tq,h.tv,h.chan⟩
end
end
section
attribute [local go_sem ↓] Go.wp_at_zero Go.wp_at_succ
attribute [local go_sem] bq bg
open Go.Conc Go.RowKit
open Go.Proofs.Tryz
abbrev cfV(g:Cf):au:=.agg (fc g.sz g.cl g.qu g.mx g.qn g.rt g.bu g.wk g.ou)
abbrev msV(m:aQ):au:=.agg (eU m)
structure aQ.Ok(m:aQ):Prop where
 nm:m.nm.size<=65535
 ck:0<=m.ck/\m.ck<=65535
 er:0<=m.er/\m.er<=255
theorem VN(g m w)(h0:0<=g.sz/\g.sz<=65535)(s:0<=g.mx/\g.mx<=65535)(hm:m.Ok)(n:m.wh=1\/m.wh=2\/m.wh=3\/m.wh=4):
  bz 192 #[cfV g,msV m] w (.string (jd g m)):=by
 by_cases i:m.wh=3
 ·obtain⟨B,y,x,r,d,of,ln,p,b⟩:=m;obtain⟨u,j,l⟩:=hm;dsimp only at i u j l;subst i;obtain⟨v,hv⟩:∃v,v=jd g ⟨3,y,x,r,d,of,ln,p,b⟩:=⟨_,rfl⟩;rw[<-hv]
  by_cases f:b=0
  ·subst f;have h:=aL hv;clear hv n;go_enter func192,ntmps192;go_wp2;go_ret;exact⟨by rw[h.out];rfl,aR.alloc aq _⟩
  ·obtain⟨a,rfl⟩:∃a:UInt8,b=(a.toNat:Int):=⟨_,(Wv b l.1 ak).symm⟩
   have h:Hid (v=mF a d ⟨#[]⟩):=by
    rw[hv];unfold jd;rw[aM rfl,aD f];show mF (zo _) _ _=_
    congr 1
    simp
   have z:((a.toNat:Int)==0)=false:=by simpa using f
   have o:Hid (∀w,bz 202 #[aj (a.toNat:Int),aj d,.string ⟨#[]⟩] w (.string v)):=fun w=>by rw[h.out];exact RE a d ⟨#[]⟩ w j.1 j.2 cq
   clear hv n f l;generalize (a.toNat:Int)=b at*;go_enter func192,ntmps192;go_wp2_with (go_at_call 202;refine(o.out _).mono ?_;rintro e A ⟨rfl,t⟩);go_ret;exact⟨rfl,(aR.alloc aq _).trans (t.mono bK)⟩
 ·have e:jd g m=answer g.sz g.mx m:=aD i;rw[e];exact VS _ _ _ _ _ _ _ _ _ m w h0 s hm.nm ak
theorem Qk(m w):
  bz 193 #[msV m] w (.bool (accepted m)):=by
 obtain⟨a,d⟩:∃a,a=accepted m:=⟨_,rfl⟩;rw[<-d];obtain⟨l,r,j,p,n,of,ln,o,i⟩:=m;cases f:(l==3)with
 |false=>
  have b:Hid (a=false):=by rw[d];simp[accepted];intro e;simp[e]at f
  go_enter func193,ntmps193;go_wp2;go_ret;exact⟨by rw[b.out];rfl,aR⟩
 |true=>
  cases h:(i==0)with
  |false=>
   have b:Hid (a=false):=by rw[d];simp[accepted];intro _ e;simp[e]at h
   go_enter func193,ntmps193;go_wp2;go_ret;exact⟨by rw[b.out];rfl,aR⟩
  |true=>
   have b:Hid (a=(j !=5)):=by show a=_;rw[d];simp only[vV]at f h;simp[accepted,f,h,bne,BEq.beq]
   go_enter func193,ntmps193;go_wp2;go_ret;exact⟨by rw[b.out];rfl,aR⟩
section
variable {w:an} {c rb ch:Nat} {q v:au} {g:Cf} {k:Ck}
theorem F0(h:cj w c rb ch q v g k)(o:k.ph≠4)(x:∀r∈k.q,r.Ok)(m:k.out.size<=4194304)(p:0<=k.prom/\k.prom<=4194304):
  ∃b:Bool,(b=true↔k.may g)/\bz 151 #[jp c] w (.bool b):=by
 have l:=h.chan;rw[ij o]at l;obtain⟨s,t,rfl⟩:=lT h.out;refine⟨decide ((k.q.length:Int)<g.qu)&&decide ((k.out.size:Int)+k.prom+needs k.q<=g.ou),by simp[Ck.may,o],F4 c ch q k.q g.qu (decide ((k.out.size:Int)+k.prom+needs k.q<=g.ou)) w (av h.box rfl) l (av h.box rfl) h.row (av h.box rfl) fun n=>?_⟩;have d:=h.drewN n
 have key:bz 188 #[jp c] (w.drewN n) (.bool (decide ((k.out.size:Int)+k.prom+needs k.q<=g.ou))):=by
  cases j:k.q with
  |nil=>
   obtain⟨a,u,rfl,_⟩:=h.row.form;refine aar c k.out.size t u a s k.prom g.ou _ ?_ m p (av d.box rfl) (av d.box rfl) (av d.box rfl);have:=av (i:=13) d.box rfl;rw[this,j];rfl
  |cons r rest=>
   have hr:=d.row;rw[j]at hr;exact aas c k.out.size t s k.prom g.ou q r rest _ (av d.box rfl) hr (x r (by rw[j];simp)) m p (av d.box rfl) (av d.box rfl) (av d.box rfl)
 refine key.mono ?_;rintro e y ⟨rfl,f⟩;exact⟨rfl,f.os,f.tape,f.output,f.size,f.block⟩
end
theorem Qg:(prog.info? 134).map (fun i=>(i.zero,i.size,i.bytes))=some (some (.agg #[aj 0,.string ⟨#[]⟩,aj 0,aj 0,aj 0,aj 0,aj 0,.string ⟨#[]⟩,aj 0,aj 0]),10,96):=aI
theorem WV(c rb ch q v g k w)(h:cj w c rb ch q v g k)(z:k.ph≠4):
  Calls prog 75 #[jp c] w fun e n=>e=.returned (.tuple #[])/\cj n c rb ch (.slice none 0 0) (.slice none 0 0) g k.shut/\aG (fun b=>b=c\/b=ch) w n:=by
 have f:=h.chan;rw[ij z]at f;have u:=aE w c 20 (.chan (some ch)) h.box;have j:=h.apart.1;have x:=run_close_open (P:=prog) (w:=w) #[166] 0 f;obtain⟨W,d⟩:∃W:an,W={w with heap:=w.heap.setIfInBounds ch (.chan 0 #[] true 0 0 false)}:=⟨_,rfl⟩;rw[<-d]at x
 have a:W.heap[c]? =some (.cells (iJ g k rb q v ch) 168 (0,0)):=by rw[d];show(w.heap.setIfInBounds ch _)[c]? =_;rw[dx (cW j)];exact h.box
 have l:W.heap[ch]? =some (.chan 0 #[] true 0 0 false):=by rw[d];have:=(aP.1 f).1;simp[this]
 have m:aG (fun b=>b=c\/b=ch) w W:=by rw[d];exact⟨rfl,aq,fun k _ y=>dx (fun e=>y (.inr e.symm))⟩
 have o:Hid (W.heap[c]? =some (.cells (iJ g k rb q v ch) 168 (0,0))/\W.heap[ch]? =some (.chan 0 #[] true 0 0 false)/\aG (fun b=>b=c\/b=ch) w W):=⟨a,l,m⟩;have A:=aE W c 12 (.string k.aO) a;have B:=aE W c 13 q a;have C:=aE W c 16 v a;have f12:=aS a 12;have f13:=aS a 13;have f16:=aS a 16;have i:=aL j;clear d a l m j h;go_enter func75,ntmps75;go_wp2_with (go_at_call 116;refine(yN c ch _ u f).mono ?_;rintro e D ⟨rfl,rfl⟩);obtain⟨r,s,t⟩:=o.out;refine dZ rfl rfl ⟨rfl,⟨?_,um _ _ _ _,um _ _ _ _,zn _,zn _,?_⟩,((t.set (p:=aa c 12) (.inl rfl) _).set (p:=aa c 13) (.inl rfl) _).set (p:=aa c 16) (.inl rfl) _⟩
 ·exact bV (bV (bV r 12 _) 13 _) 16 _
 ·exact mU (mU (mU s (cW i.out) _ _) (cW i.out) _ _) (cW i.out) _ _
abbrev qZ(c b:Nat)(g:Cf)(q v:au)(m:aQ)(W:an):Prop:=
 (W.cell? (aa c 13)=some q/\W.cell? (aa c 16)=some v)/\HeS c b g.sz g.cl g.qu g.mx g.qn g.rt g.bu g.wk g.ou m W
theorem qZ.of{c b rb ch g k q v m W}(h:W.heap[c]? =some (.cells (iJ g k rb q v ch) 168 (0,0)))(hm:sP W b m):qZ c b g q v m W:=
 ⟨⟨av h rfl,av h rfl⟩,⟨av h rfl,av h rfl,av h rfl,av h rfl,av h rfl,av h rfl,av h rfl,av h rfl,av h rfl⟩,⟨av hm rfl,av hm rfl,av hm rfl,av hm rfl,av hm rfl,av hm rfl,av hm rfl,av hm rfl,av hm rfl⟩⟩
theorem Nj{g m}(h:m.nm.size<=65535):(jd g m).size<=65540:=by
 unfold jd;split
 ·split
  ·exact(by decide:(0:Nat)<=65540)
  ·exact(by decide:(4:Nat)<=65540)
 ·exact VT h
def Ck.told(k:Ck)(a:ByteArray):Ck:={k with out:=k.out++a}
theorem cj.tell{W W1 c rb ch q v v' g k a}(h:cj W c rb ch q v g k)(n:W1.ownsRow 0 5 1 v' (k.out.size+a.size) (iT k.out++iT a))(f:W.grownBy W1 v.ownBlock)(w:CF W W1 v v' (iT a)):
  cj (W1.setCell (aa c 16) v') c rb ch q v' g (k.told a)/\aG (fun b=>b=c\/some b=v.ownBlock) W (W1.setCell (aa c 16) v')/\W1.heap[c]? =some (.cells (iJ g k rb q v ch) 168 (0,0)):=by
 obtain⟨a1,j,a3,z,s,l⟩:=h.apart;obtain⟨x,y,p,D⟩:=h.dQ;have d:W1.heap[c]? =some (.cells (iJ g k rb q v ch) 168 (0,0)):=(f.block c x a3).trans h.box;have off:∀b,b≠c->(W1.setCell (aa c 16) v').heap[b]? =W1.heap[b]? :=fun b d=>bH d
 have r:∀b,v'.ownBlock=some b->b≠c:=fun b e i=>by
  rcases n.2 with⟨rfl,_⟩|⟨C,A,B,rfl,_,m,_⟩
  ·cases e
  ·cases e;subst i;rw[d]at m;cases m
 refine⟨⟨bV d 16 v',?_,?_,?_,(w.SZ h.tv (OL a)).keep fun b e=>off b (r b e),?_⟩,⟨f.os,by simpa using f.size,fun b d o=>(off b fun e=>o (.inl e)).trans (f.block b d fun e=>o (.inr e))⟩,d⟩
 ·exact gm h.row fun b e=>(off b fun i=>j (by rw[e,i])).trans (f.block b (p b e) (l b e))
 ·have t:(k.out++a).size=k.out.size+a.size:=ot ..;have u:iT (k.out++a)=iT k.out++iT a:=by simp[iT]
  show sQ _ v' (k.out++a);unfold sQ;rw[t,u];exact gm n fun b e=>off b (r b e)
 ·exact h.tq.keep fun b e=>(off b fun i=>j (by rw[e,i])).trans (f.block b (p b e) (l b e))
 ·exact(off ch (cW a1)).trans ((f.block ch y s).trans h.chan)
def Ck.asks(k:Ck)(r:Rq):Ck:={k with q:=k.q++[r]}
theorem cj.ask{W W1 c rb ch q v q' g k r}(h:cj W c rb ch q v g k)(l:W1.ownsRow 0 134 10 q' (k.q.length+1) (k.q.flatMap (fun r=>(aC r).toList)++(aC r).toList))(f:W.grownBy W1 q.ownBlock)(x:CF W W1 q q' (aC r).toList):
  cj (W1.setCell (aa c 13) q') c rb ch q' v g (k.asks r)/\aG (fun b=>b=c\/some b=q.ownBlock) W (W1.setCell (aa c 13) q')/\W1.heap[c]? =some (.cells (iJ g k rb q v ch) 168 (0,0)):=by
 obtain⟨a1,s,a3,t,A,w⟩:=h.apart;obtain⟨y,z,E,o⟩:=h.dQ;have d:W1.heap[c]? =some (.cells (iJ g k rb q v ch) 168 (0,0)):=(f.block c y s).trans h.box;have off:∀b,b≠c->(W1.setCell (aa c 13) q').heap[b]? =W1.heap[b]? :=fun b d=>bH d
 have p:∀b,q'.ownBlock=some b->b≠c:=fun b e a=>by
  rcases l.2 with⟨rfl,_⟩|⟨D,B,C,rfl,_,j,_⟩
  ·cases e
  ·cases e;subst a;rw[d]at j;cases j
 have i:∀b,v.ownBlock=some b->some b≠q.ownBlock:=fun b e a=>w b a.symm e.symm;refine⟨⟨bV d 13 q',?_,?_,(x.SZ h.tq ?_).keep fun b e=>off b (p b e),?_,?_⟩,⟨f.os,by simpa using f.size,fun b d n=>(off b fun e=>n (.inl e)).trans (f.block b d fun e=>n (.inr e))⟩,d⟩
 ·show gX _ q' (k.q++[r]);unfold gX;rw[ia,rW];simp;exact gm l fun b e=>off b (p b e)
 ·exact gm h.out fun b e=>(off b fun a=>a3 (by rw[e,a])).trans (f.block b (o b e) (i b e))
 ·intro u m;simp at m;rcases m with rfl|rfl|rfl|rfl|rfl|rfl|rfl|rfl|rfl|rfl<;>trivial
 ·exact h.tv.keep fun b e=>(off b fun a=>a3 (by rw[e,a])).trans (f.block b (o b e) (i b e))
 ·exact(off ch (cW a1)).trans ((f.block ch z t).trans h.chan)
def Ck.heard(g:Cf)(k:Ck)(m:aQ):Ck:=if m.wh=4 then k.shut else if accepted m then(k.told (jd g m)).asks ⟨m,-1⟩else k.told (jd g m)
theorem ZH(c rb ch q v g k m w)(h:cj w c rb ch q v g k)(hp:k.ph≠4)(h0:0<=g.sz/\g.sz<=65535)(h1:0<=g.mx/\g.mx<=65535)(hm:m.Ok)(X:m.wh=1\/m.wh=2\/m.wh=3\/m.wh=4)(ho:k.out.size<=1048576)(hq:k.q.length<=1048576):
  Calls prog 153 #[jp c,msV m] w fun e j=>e=.returned (.tuple #[])/\∃z a,cj j c rb ch z a g (k.heard g m)/\aG (fun b=>b=c\/b=ch\/some b=q.ownBlock\/some b=v.ownBlock) w j/\
   (z.ownBlock=q.ownBlock\/∀b,z.ownBlock=some b->w.heap.size<=b)/\(a.ownBlock=v.ownBlock\/∀b,a.ownBlock=some b->w.heap.size<=b):=by
 obtain⟨i0,bg,qy,bu,qz⟩:=info_parts infoByte;obtain⟨i1,bk,bp,bq,bt⟩:=info_parts Qg;have bH:=Nj (g:=g) hm.nm
 have D:Hid (w.heap.size≠c/\w.heap.size≠ch/\(∀b,q.ownBlock=some b->b≠w.heap.size)/\∀b,v.ownBlock=some b->b≠w.heap.size):=by obtain⟨l1,l2,l3,l4⟩:=h.dQ;exact⟨ak,ak,fun b e=>by have:=l3 b e;omega,fun b e=>by have:=l4 b e;omega⟩
 have I:aB w (w.alloc (.cells (eU m) 132)):=aR;have o:Hid (cj (w.alloc (.cells (eU m) 132)) c rb ch q v g k/\sP (w.alloc (.cells (eU m) 132)) w.heap.size m/\aB w (w.alloc (.cells (eU m) 132))):=⟨h.old I,bW w _,I⟩;have L:Hid (m.Ok/\(m.wh=1\/m.wh=2\/m.wh=3\/m.wh=4)):=⟨hm,X⟩;clear h hm X I;go_enter func153,ntmps153
 go_upto_region 1 with fail
 generalize w.alloc (.cells (eU m) 132)=A0 at*
 go_cut [3] (fun p j=>p=aF w.heap.size/\∃a,cj j c rb ch q a g (k.told (jd g m))/\sP j w.heap.size m/\aG (fun b=>b=c\/some b=v.ownBlock) w j/\(a.ownBlock=v.ownBlock\/∀b,a.ownBlock=some b->w.heap.size<=b))
 case first=>
  refine gW ?_;refine dh (S:=qZ c w.heap.size g q v m) 14 aI (qZ.of o.out.1.box o.out.2.1) ?_;intro hS;refine gk 0 ?_;refine gk 1 ?_;refine gk 2 ?_;refine gk 3 ?_;refine gs 4 ?_;refine gk 5 ?_;refine gk 6 ?_;refine gk 7 ?_;refine gs 8 ?_;refine gs 9 ?_;refine gr 10 fun K d=>?_;go_simp;go_at_call 192;refine(VN g m _ h0 h1 L.out.1 L.out.2).mono ?_;rintro e J ⟨rfl,r⟩;have x:aB A0 J:=⟨r.os,r.tape,r.output,r.size,r.block⟩;have G:=o.out.1.old x;have E:sP J w.heap.size m:=bD x o.out.2.1;refine d.out _ _ (qZ.of G.box E) (fun DM=>?_);clear d K;obtain⟨a,w3,hr,U,R,Y⟩:=Nk (P:=prog) J 158 9 158 5 i0 underlying158 underlying9 bg qy bu qz v k.out.size (iT k.out) G.out (jd g m) ak;obtain⟨va,vc,rfl⟩:=lT U;obtain⟨P3,T3,A⟩:=G.tell U R Y;have M:sP w3 w.heap.size m:=(R.block _ (aP.1 E).1 fun e=>D.out.2.2.2 _ e.symm rfl).trans E;refine gr 11 fun K d=>?_;refine RB rfl rfl rfl rfl hr ?_;refine d.out _ _ (qZ.of A M) (fun bE=>?_);clear d K;refine gk 12 ?_;refine gk 13 ?_;have bN:=aE w3 c 16 v A;have f16:=aS A 16;refine gz fun K d=>?_;go_simp;refine d.out _ _ ?_;refine dJ aI ?_ _;refine gp ?_;go_wp2_with fail
  go_meet
  case rel=>
   refine⟨rfl,_,P3,mU M D.out.1 16 _,(aG.below (o.out.2.2.trans (x.mono o.out.2.2.size))).trans (T3.mono fun b _ h=>h),Y.at_.imp id fun h b e=>?_⟩;have:=h b e;have:=x.size;have:=o.out.2.2.size;omega
 case rest=>
  obtain⟨rfl,a,k1,f,k3,k4⟩:=hcut;have i:Hid (cj wc c rb ch q a g (k.told (jd g m))/\sP wc w.heap.size m/\aG (fun b=>b=c\/some b=v.ownBlock) w wc/\(a.ownBlock=v.ownBlock\/∀b,a.ownBlock=some b->w.heap.size<=b)):=⟨k1,f,k3,k4⟩;have z0:=aE wc w.heap.size 0 (aj m.wh) f;have z1:=aE wc w.heap.size 1 (.string m.nm) f;have z2:=aE wc w.heap.size 2 (aj m.kd) f;have z3:=aE wc w.heap.size 3 (aj m.fl) f;have z4:=aE wc w.heap.size 4 (aj m.ck) f;have z5:=aE wc w.heap.size 5 (aj m.of) f;have z6:=aE wc w.heap.size 6 (aj m.ln) f;have z7:=aE wc w.heap.size 7 (.string m.dt) f;have z8:=aE wc w.heap.size 8 (aj m.er) f;clear k1 f k3 k4;cases Q:(m.wh==4)with
  |true=>
   have e4:k.heard g m=(k.told (jd g m)).shut:=aM (by simpa using Q)
   have HC:Hid (Calls prog 75 #[jp c] wc fun e j=>e=.returned (.tuple #[])/\cj j c rb ch (.slice none 0 0) (.slice none 0 0) g (k.heard g m)/\aG (fun b=>b=c\/b=ch) wc j):=by rw[e4];exact WV c rb ch q a g _ wc i.out.1 hp
   go_wp2_with (go_at_call 75;refine HC.out.mono ?_;rintro e l ⟨rfl,c1,c2⟩);refine dZ rfl rfl ⟨rfl,_,_,c1,(i.out.2.2.1.mono ?_).trans (c2.mono ?_),.inr (fun b e=>(by cases e)),.inr (fun b e=>(by cases e))⟩
   ·rintro b _ (h|h)
    ·exact .inl h
    ·exact .inr (.inr (.inr h))
   ·rintro b _ (h|h)
    ·exact .inl h
    ·exact .inr (.inl h)
  |false=>
   have y:m.wh≠4:=by simpa using Q
   cases t:accepted m with
   |false=>
    have C:Hid (k.heard g m=k.told (jd g m)):=by show k.heard g m=_;rw[Ck.heard,aD y,t];rfl
    have HI:=aL (t▸Qk m wc);clear y;go_wp2_with (go_at_call 193;refine HI.out.mono ?_;rintro e l ⟨rfl,n⟩);refine dZ rfl rfl ⟨rfl,q,a,C.out▸i.out.1.old n,(i.out.2.2.1.mono ?_).trans (aG.below n),.inl rfl,i.out.2.2.2⟩;rintro b _ (h|h)
    ·exact .inl h
    ·exact .inr (.inr (.inr h))
   |true=>
    have C:Hid (k.heard g m=(k.told (jd g m)).asks ⟨m,-1⟩):=by show k.heard g m=_;rw[Ck.heard,aD y,t];rfl
    clear y
    go_upto_region 5 with(go_at_call 193;refine(aL (t▸Qk m wc)).out.mono ?_;rintro e l ⟨rfl,n⟩)
    have O:=i.out.1.old n;have N:sP l w.heap.size m:=bD n i.out.2.1;refine gW ?_;refine dh (S:=qZ c w.heap.size g q a m) 11 aI (qZ.of O.box N) ?_;intro hS;refine gk 0 ?_;refine gk 1 ?_;refine gk 2 ?_;refine gk 3 ?_;refine gs 4 ?_;refine gs 5 ?_;refine gk 6 ?_;have s:aB l (l.drew.alloc (.cells (aC ⟨m,-1⟩) 134)):=⟨rfl,rfl,rfl,aq,fun k hk=>Below.heap_alloc _ _ _ hk⟩;have H:=O.old s;have F:sP (l.drew.alloc (.cells (aC ⟨m,-1⟩) 134)) w.heap.size m:=bD s N;refine gr 7 fun K d=>?_;go_simp;refine d.out _ _ (qZ.of H.box F) (fun bF=>?_);clear d K
    obtain⟨z,w7,hr,V,T,Z⟩:=He (P:=prog) (l.drew.alloc (.cells (aC ⟨m,-1⟩) 134)) 165 165 134 i1 _ 10 96 underlying165 bk bp bq bt rfl ak (by intro u W;simp only[Aa,mL,BY,or_false]at W;rcases W with rfl|rfl|rfl|rfl|rfl|rfl|rfl|rfl|rfl|rfl<;>trivial) q k.q.length _ H.row ⟨l.heap.size,0,none⟩ 1 1 (aC ⟨m,-1⟩).toList rfl (World.news_of_block (bW l.drew (.cells (aC ⟨m,-1⟩) 134))) (by simp[Value.oneCell']) ak (by unfold maxLen;omega) ak
    obtain⟨qa,qc,rfl⟩:=lT V;obtain⟨P7,T7,B⟩:=H.ask V T Z;have M7:sP w7 w.heap.size m:=(T.block _ (aP.1 F).1 fun e=>D.out.2.2.1 _ e.symm rfl).trans F;refine gr 8 fun K d=>?_;refine wY rfl rfl rfl rfl hr ?_;refine d.out _ _ (qZ.of B M7) (fun bG=>?_);clear d K;refine gk 9 ?_;refine gk 10 ?_;have bM:=aE w7 c 13 q B;have f13:=aS B 13;refine gz fun K d=>?_;go_simp;refine d.out _ _ ?_;refine dJ aI ?_ _;refine gp ?_;go_wp2;refine dZ rfl rfl ⟨rfl,_,a,C.out▸P7,((i.out.2.2.1.mono ?_).trans (aG.below (n.trans (s.mono n.size)))).trans (T7.mono ?_),Z.at_.imp id fun h b e=>?_,i.out.2.2.2⟩
    ·rintro b _ (h|h)
     ·exact .inl h
     ·exact .inr (.inr (.inr h))
    ·rintro b _ (h|h)
     ·exact .inl h
     ·exact .inr (.inr (.inl h))
    ·have:=h b e;have:=s.size;have:=n.size;have:=i.out.2.2.1.size;omega
end
section
open Go.Conc Go.RowKit
open Go.Proofs.Tryz
theorem aeA(sz kd fl of ln):0<=verdict sz kd fl of ln/\verdict sz kd fl of ln<=255:=by
 unfold verdict
 repeat' split
 all_goals omega
theorem Zu(s f i):(cP s f i).1.ck=0/\(cP s f i).1.er=0/\(cP s f i).1.of=0/\(cP s f i).1.ln=0:=by
 induction f generalizing i with
 |zero=>unfold cP;split<;>exact⟨rfl,rfl,rfl,rfl⟩
 |succ f a=>
  unfold cP;split
  ·exact⟨rfl,rfl,rfl,rfl⟩
  ·split
   ·exact a (i+1)
   ·exact⟨rfl,rfl,rfl,rfl⟩
theorem OJ(sz mx ph us s):(first sz mx ph us s).1.Ok/\(⟨(first sz mx ph us s).1,-1⟩:Rq).Ok:=by
 have e:=OI sz mx ph us s
 have key:(0<=(first sz mx ph us s).1.er/\(first sz mx ph us s).1.er<=255)/\(0<=(first sz mx ph us s).1.of/\(first sz mx ph us s).1.of<=65535)/\(0<=(first sz mx ph us s).1.ln/\(first sz mx ph us s).1.ln<=65535):=by
  have z:((0:Int)<=0/\(0:Int)<=255)/\((0:Int)<=0/\(0:Int)<=65535)/\((0:Int)<=0/\(0:Int)<=65535):=cq;unfold first
  split
  ·obtain⟨_,a,b,d⟩:=Zu s 5 0;unfold mC;omega
  ·split
   ·unfold opt
    repeat' split
    all_goals exact z
   ·split
    ·unfold lA
     repeat' split
     all_goals first|exact⟨aeA _ _ _ _ _,kG s 5,kG s 7⟩|exact z
    ·exact z
 exact⟨⟨ak,(OH sz mx ph us s),key.1⟩,⟨key.2.1.1,key.2.1.2,key.2.2.1,key.2.2.2⟩⟩
theorem Yq(sz mx ph us s)(h0:(first sz mx ph us s).2≠0):(first sz mx ph us s).1.wh=1\/(first sz mx ph us s).1.wh=2\/(first sz mx ph us s).1.wh=3\/(first sz mx ph us s).1.wh=4:=by
 revert h0;unfold first
 split
 ·rcases Zv s 5 0 with h|h|h
  ·intro h0;exact absurd h.2 h0
  ·exact fun _=>.inl h
  ·intro _;have:(mC s).1=.closing:=h;rw[this];exact .inr (.inr (.inr rfl))
 ·split
  ·unfold opt
   repeat' split
   all_goals simp[aQ.closing]
  ·split
   ·unfold lA
    repeat' split
    all_goals simp[aQ.closing]
   ·simp
theorem GX{ph m}(a:ph≠4)(hm:m.wh≠4):after ph m≠4:=by
 unfold after
 repeat' split
 all_goals omega
section
variable {W w:an} {c rb mb ch:Nat} {q v:au} {g:Cf} {k k':Ck}
theorem cj.like(h:cj W c rb ch q v g k)(a:iJ g k' rb q v ch=iJ g k rb q v ch)(b:k'.q=k.q)(d:k'.out=k.out)(e:k'.ph=4↔k.ph=4):cj W c rb ch q v g k':=
 ⟨a▸h.box,b▸h.row,d▸h.out,h.tq,h.tv,by rw[show decide (k'.ph=4)=decide (k.ph=4) from decide_eq_decide.2 e];exact h.chan⟩
theorem QE(h:cj w c rb ch q v g k)(i:∀r∈k.q,r.Ok)(e:k.out.size<=4194304)(f:0<=k.prom/\k.prom<=4194304):
  ∃b:Bool,(b=true↔k.may g)/\bz 151 #[jp c] w (.bool b):=by
 by_cases a:k.ph=4
 ·have d:=h.chan;rw[iY a]at d;exact⟨false,by simp[Ck.may,a],F5 c ch w (av h.box rfl) d⟩
 ·exact F0 h a i e f
structure bM(W:an)(c rb mb ch:Nat)(q v:au)(g:Cf)(k:Ck):Prop where
 p:cj W c rb ch q v g k
 rd:∃a,dz W rb mb g.sz g.mx a k.us/\(k.ph≠4->a=k.ph)
structure Ck.Ak(g:Cf)(k:Ck):Prop where
 aO:k.aO.size<=1048576
 out:k.out.size<=1048576
 q:∀r∈k.q,r.Ok
 len:k.q.length<=1048576
 prom:0<=k.prom/\k.prom<=1048576
 us:k.us.length<=1048576
 sz:0<=g.sz/\g.sz<=65535
 mx:0<=g.mx/\g.mx<=65535
 qu:g.qu<=65535
 ou:g.ou<=65535
theorem Pg{pre a}(h:oU g k pre a)(d:∀r∈k.q,r.Ok):∀r∈a.q,r.Ok:=by
 induction h with
 |nil=>exact d
 |@snoc pre a x h i e h0 f b=>
  intro r hr;have hr':r∈(if accepted x.1 then a.q++[⟨x.1,-1⟩]else a.q):=hr;split at hr'
  ·rw[kU]at hr';rcases hr' with hr'|hr'
   ·exact b r hr'
   ·obtain rfl:=mM.1 hr';rw[<-e];exact(OJ _ _ _ _ _).2
  ·exact b r hr'
theorem I0{l}(h:∀r∈l,r.Ok):6<=needs l:=by
 cases l with
 |nil=>exact lW 6
 |cons r t=>
  have:=(h r aq).lR;show 6<=6+sizeOf' r.m;unfold sizeOf';split<;>omega
end
end
section
attribute [local go_sem] Oper.semAt_some
attribute [local go_sem] bq bg
open Go.Proofs.Tryz
open Go.RowKit Go.Shelf
def RgI(c rb mb ch b B0:Nat)(g:Cf)(k:Ck)(pre:List (aQ×Int))(W:an):Prop:=
 ∃a q v,oU g k pre a/\a.may g/\cj W c rb ch q v g a/\(∀x,q.ownBlock=some x->¬Aside rb mb b x)/\(∀x,v.ownBlock=some x->¬Aside rb mb b x)/\W.heap[B0]? =some (.cells #[aF c] 119 (0,0))
def RgX(c rb mb ch b:Nat)(g:Cf)(k:Ck)(pre:List (aQ×Int))(W:an):Prop:=
 ∃a q v,(∀f,pre.length<=f->Ck.read g f k=a)/\cj W c rb ch q v g a/\(∀x,q.ownBlock=some x->¬Aside rb mb b x)/\(∀x,v.ownBlock=some x->¬Aside rb mb b x)/\(a.ph≠4->a.ph=((⟨k.ph,k.us,0⟩:St).run pre).ph)/\((⟨k.ph,k.us,0⟩:St).run pre).used=a.us
section
variable {c rb mb ch b B0:Nat} {g:Cf} {k:Ck} {q v:au} {W W':an}
theorem Hg{row}(hr:∀r,row=some r->ItR rb mb (b+1) r\/r=b+2+1):∀i,¬Aside rb mb b i->row≠some i:=fun i a e=>a (by
 rcases hr i e with(h|h|h)|h
 ·exact .inl h
 ·exact .inr (.inl h)
 ·exact .inr (.inr (.inr (.inl h)))
 ·exact .inr (.inr (.inr (.inr (.inr h)))))
theorem cj.grown{row}(h:cj W c rb ch q v g k)(a:W.grownBy W' row)(hr:∀i,¬Aside rb mb b i->row≠some i)(hc:¬Aside rb mb b c)(j:¬Aside rb mb b ch)(d:∀x,q.ownBlock=some x->¬Aside rb mb b x)(f:∀x,v.ownBlock=some x->¬Aside rb mb b x):cj W' c rb ch q v g k:=
 have l:=h.dQ
 h.keep (a.block _ l.1 (hr c hc).symm) (a.block _ l.2.1 (hr ch j).symm) (fun x e=>a.block _ (l.2.2.1 x e) (hr x (d x e)).symm) fun x e=>a.block _ (l.2.2.2 x e) (hr x (f x e)).symm
theorem RgI.bears(hc:¬Aside rb mb b c)(m:¬Aside rb mb b ch)(l:¬Aside rb mb b B0):Bears (fun r=>ItR rb mb (b+1) r\/r=b+2+1) (RgI c rb mb ch b B0 g k):=by rintro pre W W' row ⟨n,q,v,f,h,i,a,d,j⟩ e hr;exact⟨n,q,v,f,h,i.grown e (Hg hr) hc m a d,a,d,mz j e (Hg hr B0 l)⟩
theorem RgX.bears(hc:¬Aside rb mb b c)(j:¬Aside rb mb b ch):Bears (fun r=>ItR rb mb (b+1) r\/r=b+2+1) (RgX c rb mb ch b g k):=by rintro pre W W' row ⟨l,q,v,e,f,a,d,h⟩ i hr;exact⟨l,q,v,e,f.grown i (Hg hr) hc j a d,a,d,h⟩
theorem bM.off{x}{N:Nat}(h:bM W c rb mb ch q v g k)(w:W.heap[N]? =some (.deferred x))(y:∀i,i≠N->W'.heap[i]? =W.heap[i]?):bM W' c rb mb ch q v g k:=by
 have key:∀i o,W.heap[i]? =some o->o≠Obj.deferred x->W'.heap[i]? =W.heap[i]? :=fun i o A z=>y i fun e=>z (by subst e;exact dm (A.symm.trans w))
 have f:∀{T m n:Nat} {u:au} {j:List au},W.ownsRow 0 T m u n j->∀b,u.ownBlock=some b->W'.heap[b]? =W.heap[b]? :=fun{T m n u j} hr b e=>by
  rcases hr.2 with⟨rfl,_⟩|⟨E,C,D,rfl,_,a,_⟩
  ·cases e
  ·cases e;exact key _ _ a aq
 obtain⟨B,a,t⟩:=h.rd;refine⟨h.p.keep (key _ _ h.p.box aq) (key _ _ h.p.chan aq) (f h.p.row) (f h.p.out),B,⟨(key _ _ a.box aq).trans a.box,?_⟩,t⟩;obtain⟨s,l,d,r⟩:=a.uses;exact⟨s,l,(key _ _ d aq).trans d,r⟩
end
def Ck.iO(g:Cf)(k:Ck)(x:aQ×Int):Ck:=if x.1.wh=4 then k.shut else k.hear g x
theorem yZ(c rb mb ch q v g k w)(h:bM w c rb mb ch q v g k)(B:k.Ak g):
  CallsIn jQ 3 prog 100 #[aF c] w fun e w'=>e=.returned (.tuple #[])/\∃j s,bM w' c rb mb ch j s g (Ck.read g (k.aO.size+1) k):=by
 obtain⟨rp,hR,bF⟩:=h.rd;have ID:aB w (w.alloc (.cells #[aF c] 119)):=aR;obtain⟨dd,bC,cR⟩:=QE (h.p.old ID) B.q (by have:=B.out;omega) (by have:=B.prom;omega);have HM:=aL cR;have HB:=aL ID;clear cR ID;cases dd with
 |false=>
  have HA:Hid (∀W,aB w W->∃j s,bM W c rb mb ch j s g (Ck.read g (k.aO.size+1) k)):=fun W Z=>by rw[Ry (fun hx=>by simp[hx]at bC)];exact⟨q,v,h.p.old Z,rp,hR.later Z,bF⟩
  clear hR bF h bC;refine Vl func100 rfl trivial ?_ rfl;simp only[ntmps100,iH,eD,iF,oJ,Nat.reduceSub,tR,tS,ud,tX,pW,jR]
  gi_wp2_with (first|(refine⟨trivial,?_⟩;gi_at_call 151;refine(fT.2 HM.out).mono ?_;rintro e E ⟨rfl,fu⟩))
  exact⟨.tuple #[],by simp[results,results100],rfl,HA.out _ (HB.out.trans (fu.mono aq))⟩
 |true=>
  have PX:k.may g:=bC.1 rfl;have ZQ:k.ph≠4:=PX.1;obtain rfl:=bF ZQ;have HA:Hid (∀W,aB w W->cj W c rb ch q v g k/\dz W rb mb g.sz g.mx k.ph k.us):=fun W Z=>⟨h.p.old Z,hR.later Z⟩
  have HX:Hid (∀b,w.heap.size<b->¬Aside rb mb b c/\¬Aside rb mb b ch/\¬Aside rb mb b w.heap.size/\(∀x,q.ownBlock=some x->¬Aside rb mb b x)/\(∀x,v.ownBlock=some x->¬Aside rb mb b x)/\rb<w.heap.size/\mb<w.heap.size):=fun b hb=>by
   obtain⟨es,ck,cQ,_⟩:=hR.uses;have wP:=hR.box;have l1:=(aP.1 wP).1;have l2:=(aP.1 cQ).1
   have key:∀i o,w.heap[i]? =some o->o≠.map es ck->o≠.cells #[aj g.sz,aj g.mx,aj k.ph,.map (some mb)] 228 (0,0)->¬Aside rb mb b i:=fun i o ho n1 n2=>by
    have l3:=(aP.1 ho).1;rintro(rfl|rfl|h)
    ·exact n2 (dm (ho.symm.trans wP))
    ·exact n1 (dm (ho.symm.trans cQ))
    ·omega
   have Qp:∀{T m n:Nat} {u:au} {H:List au},T≠228->w.ownsRow 0 T m u n H->∀x,u.ownBlock=some x->¬Aside rb mb b x:=fun{T m n u H} hT hr x e=>by
    rcases hr.2 with⟨rfl,_⟩|⟨g',dI,dK,rfl,_,h3,_⟩
    ·cases e
    ·cases e;exact key _ _ h3 aq (by simp;intro _ e;exact absurd e hT)
   refine⟨key c _ h.p.box aq aq,key ch _ h.p.chan aq aq,?_,Qp cq h.p.row,Qp cq h.p.out,l1,l2⟩;rintro(h|h|h)<;>omega
  clear hR bF h bC;refine Vl func100 rfl trivial ?_ rfl;simp only[ntmps100,iH,eD,iF,oJ,Nat.reduceSub,tR,tS,ud,tX,pW,jR]
  gi_wp2_with (first|(refine⟨trivial,?_⟩;gi_at_call 151;refine(fT.2 HM.out).mono ?_;rintro e E ⟨rfl,fu⟩;have PC:=HA.out E (HB.out.trans (fu.mono aq));have e6:=aE E c 11 (aF rb) PC.1.box;have e7:=aE E c 12 (.string k.aO) PC.1.box;have r0:E.cell? (aa w.heap.size 0)=some (aF c):=bp fu (by simp[go_sem])))
  refine wpIn_wide.2 ?_;refine dR (S:=ReS c rb w.heap.size k.aO) ⟨e6,e7,r0⟩ fun dU=>?_;refine tk 0 ?_;refine tk 1 ?_;refine tk 2 ?_;refine tk 3 ?_;refine tk 4 ?_;refine tk 5 ?_;refine tk 6 ?_;refine tk 7 ?_;refine rH 8 fun K hK=>?_;go_simp
  (refine(F6 rb k.aO _).mono ?_;rintro e w4 ⟨rfl,rfl⟩)
  go_wp2_with fail;refine hK.out _ _ (ReS.A7 dU) (fun fF=>?_);clear hK K;refine cK ?_
  (gi_wp2)
  obtain⟨bg,PK,eu,pF⟩:=X3 E rb k.aO;have Zx:aB w E:=HB.out.trans (fu.mono aq);have wN:w.heap.size<E.heap.size:=by have:=fu.size;simp at this;omega
  have Pr:aB w (vm E rb k.aO):=Zx.trans (pF.mono (mg wN));have yL:(vm E rb k.aO).heap[w.heap.size]? =some (.cells #[aF c] 119 (0,0)):=(pF.block _ wN).trans ((fu.block _ aq).trans (bW w _));obtain⟨y1,y3⟩:=HA.out _ Pr;obtain⟨x1,x2,x3,x4,fq,x5,x6⟩:=HX.out _ wN;show Code.wpIn jQ 3 prog _ _ _ (vm E rb k.aO);generalize vm E rb k.aO=W0 at*;generalize E.heap.size=b at*;have dX:jE W0 rb mb b (b+1) g.sz g.mx k.aO ⟨k.ph,k.us,0⟩:=⟨y3,PK,by rw[show k.aO.extract (⟨k.ph,k.us,0⟩:St).pos k.aO.size=k.aO by simp];exact eu,ak,ak,ak,ak,ak⟩;have hz:=B.sz.1;have fJ:=B.aO;have fL:=B.us
  refine yW (w:=W0) rfl cq (gf:=189) (lb:=#[aF b,aF (b+1)]) rfl trivial (enters_of func189 aI rfl) (encs:=Ju) (fun _=>rfl)
   (R:=ItR rb mb (b+1)) (Kp:=wo rb mb b (b+1)) (V:=lK g.sz g.mx k.aO ⟨k.ph,k.us,0⟩)
   (S:=fun H W'=>lK g.sz g.mx k.aO ⟨k.ph,k.us,0⟩ H/\(((⟨k.ph,k.us,0⟩:St).run H).next g.sz g.mx k.aO).2=0/\jE W' rb mb b (b+1) g.sz g.mx k.aO ((⟨k.ph,k.us,0⟩:St).run H))
   (Sp:=fun pre W'=>lK g.sz g.mx k.aO ⟨k.ph,k.us,0⟩ pre/\jE W' rb mb b (b+1) g.sz g.mx k.aO ((⟨k.ph,k.us,0⟩:St).run pre))
   (fun W Z=>x9 2 cq _ _ _ _ g.sz g.mx k.aO ⟨k.ph,k.us,0⟩ W hz ak (by show k.us.length<=_;omega) (eE _) (dX.later Z)) ?hR ?hKt ?hKb ?hS ?hSp
   (RgI c rb mb ch b w.heap.size g k) (RgX c rb mb ch b g k) ?hI ?hIx ?h0 (ReM c rb b w.heap.size k.aO) ?hAx ?assign ?body ?done ?stop
  case hR=>rintro r (h|h|h)<;>omega
  case hKt=>exact fun h k=>⟨k.1.trans h.1,k.2.1.trans h.2.1,k.2.2.1.trans h.2.2.1,k.2.2.2.trans h.2.2.2⟩
  case hKb=>exact fun W o=>⟨eX ak,eX ak,eX ak,eX ak⟩
  case hS=>exact fun H W W' row h I hr=>⟨h.1,h.2.1,h.2.2.kept ⟨I.block _ h.2.2.rd.lt.1 (fun e=>by have:=hr _ e.symm;omega),I.block _ h.2.2.rd.lt.2 (fun e=>by have:=hr _ e.symm;omega),I.block _ (aP.1 h.2.2.cp).1 (fun e=>by have:=hr _ e.symm;omega),I.block _ (aP.1 h.2.2.tx).1 (fun e=>by have:=hr _ e.symm;omega)⟩⟩
  case hSp=>exact fun H W W' row h I hr=>⟨h.1,h.2.kept ⟨I.block _ h.2.rd.lt.1 (fun e=>by have:=hr _ e.symm;omega),I.block _ h.2.rd.lt.2 (fun e=>by have:=hr _ e.symm;omega),I.block _ (aP.1 h.2.cp).1 (fun e=>by have:=hr _ e.symm;omega),I.block _ (aP.1 h.2.tx).1 (fun e=>by have:=hr _ e.symm;omega)⟩⟩
  case hI=>rw[bg];exact RgI.bears x1 x2 x3
  case hIx=>rw[bg];exact RgX.bears x1 x2
  case h0=>exact⟨k,_,_,.nil,PX,y1,x4,fq,yL⟩
  case hAx=>rw[bg];exact fun x=>ReM.bears ak ak x
  case assign=>
   rintro l pre ⟨m,nn⟩ W K hi hv fN hK
   gi_wp2
   have I:=World.grownBy_alloc W (.cells (eU m) 132) none;refine hK _ (W.alloc (.cells (eU m) 132)) ?_ ?_ ?_ ?_
   ·exact⟨Below.heap_alloc _ _ _ ak,Below.heap_alloc _ _ _ ak⟩
   ·exact⟨Below.heap_alloc _ _ _ ak,Below.heap_alloc _ _ _ ak,Below.heap_alloc _ _ _ ak,Below.heap_alloc _ _ _ ak⟩
   ·exact RgI.bears x1 x2 x3 _ _ _ none hi I (fun r e=>by cases e)
   ·exact⟨W.heap.size,ak,bW _ _,rfl⟩
  case body=>
   rintro l pre ⟨m,nn⟩ a' W ⟨a,C,D,G,g2,O,g4,g5,U⟩ ⟨A,dh,dj,rfl⟩ hv fN;obtain⟨i1,i2,i3,i4,i5,i6,i7,i8,i9,ez,eB⟩:=DK G;have yM:=Pf G;have cZ:=((RS g.sz g.mx k.aO ⟨k.ph,k.us,0⟩ pre (m,nn)).1 hv).2;rw[yM]at cZ;obtain⟨P,cv⟩:=cZ;have bE:=Ik g.sz g.mx a.ph a.us a.aO;have cu:=OJ g.sz g.mx a.ph a.us a.aO;have IY:=Yq g.sz g.mx a.ph a.us a.aO (by rw[P];exact cv);rw[P]at bE cu IY;obtain⟨K,rfl⟩:∃K:Nat,nn=(K:Int):=⟨nn.toNat,by have:=bE.1;simp at this;omega⟩;have hK:K<=a.aO.size:=by have:=bE.2;simp at this;omega
   have dH:=aE W c 12 (.string a.aO) O.box;have f12:=aS O.box 12;have c0:=aE W w.heap.size 0 (aF c) U;have fI:a.aO.size<=1048576:=by rw[i3];simp[kL];omega
   have fK:(K:Int)<=(a.aO.size:Int):=ak;have HG:Hid (oU g k pre a/\a.may g/\first g.sz g.mx a.ph a.us a.aO=(m,(K:Int))/\(K:Int)≠0/\m.Ok/\(m.wh=1\/m.wh=2\/m.wh=3\/m.wh=4)):=⟨G,g2,P,cv,cu.1,IY⟩;have HQ:Hid (cj W c rb ch C D g a/\(∀x,C.ownBlock=some x->¬Aside rb mb b x)/\(∀x,D.ownBlock=some x->¬Aside rb mb b x)/\W.heap[w.heap.size]? =some (.cells #[aF c] 119 (0,0))/\W.heap[A]? =some (.cells (eU m) 132 (0,0))/\b+4<=A/\W0.heap.size+2<=W.heap.size):=⟨O,g4,g5,U,dj,dh,fN⟩;have HI:Hid (a.prom=k.prom/\a.ph=((⟨k.ph,k.us,0⟩:St).run pre).ph/\((⟨k.ph,k.us,0⟩:St).run pre).used=a.us):=⟨i9,i1,i2⟩;clear G g2 O g4 g5 U dh dj fN i1 i2 i3 i4 i5 i6 i7 i8 i9 ez eB P cv cu IY bE yM hv;unfold ReA
   gi_wp2
   rename_i K0 Py;have dV:=Py
   have dA:K0 (ReB c rb b w.heap.size k.aO a.aO m K A) (W.setCell (aa c 12) (.string (a.aO.extract K a.aO.size))).drew:=by
    obtain⟨Y,z,p3,p4,p5,p6⟩:=HG.out;obtain⟨az,q3,cC,q5,q6,q7,q8⟩:=HQ.out;obtain⟨j1,j2,j3⟩:=HI.out;have n2:w.heap.size≠c:=eL q5 az.box aq;have n3:A≠c:=eL q6 az.box aq;have n4:w.heap.size≠ch:=eL q5 az.chan aq
    have n5:some w.heap.size≠C.ownBlock:=fun e=>by
     rcases az.row.2 with⟨e',_⟩|⟨g',dI,dK,e',_,h3,_⟩
     ·rw[e']at e;cases e
     ·rw[e']at e;cases e;exact eL q5 h3 aq rfl
    have n6:some w.heap.size≠D.ownBlock:=Q3 az.out q5 aq;obtain⟨y,aH⟩:∃y,y=(W.setCell (aa c 12) (.string (a.aO.extract K a.aO.size))).drew:=⟨_,rfl⟩;have P5:cj y c rb ch C D g {a with aO:=a.aO.extract K a.aO.size}:=by rw[aH];exact(az.put (k':={a with aO:=a.aO.extract K a.aO.size}) 12 (.string (a.aO.extract K a.aO.size)) rfl rfl rfl rfl).drew
    have M:y.heap[A]? =some (.cells (eU m) 132 (0,0)):=by rw[aH];exact mU q6 n3 _ _
    have X5:y.heap[w.heap.size]? =some (.cells #[aF c] 119 (0,0)):=by rw[aH];exact mU q5 n2 _ _
    have T5:aG (fun i=>i=c) W y:=by rw[aH];exact⟨rfl,aq,fun i _ hi=>Below.heap_setCell _ _ _ _ hi⟩
    rw[<-aH];clear aH Py az q5 q6 dH f12 c0;refine dV _ _ ?_;have z0:=aE y A 0 (aj m.wh) M;have z1:=aE y A 1 (.string m.nm) M;have z2:=aE y A 2 (aj m.kd) M;have z3:=aE y A 3 (aj m.fl) M;have z4:=aE y A 4 (aj m.ck) M;have z5:=aE y A 5 (aj m.of) M;have z6:=aE y A 6 (aj m.ln) M;have z7:=aE y A 7 (.string m.dt) M;have z8:=aE y A 8 (aj m.er) M;have y0:=aE y w.heap.size 0 (aF c) X5;have cU:=Pg Y B.q;have dZ:=I0 cU;have eb:a.out.size<=65535:=by have:=z.2.2;have:=B.ou;have:=B.prom;omega
    have ej:a.q.length<=65535:=by have:=z.2.1;have:=B.qu;omega
    have cP:(a.iO g (m,(K:Int))).ph=4↔m.wh=4:=by
     unfold Ck.iO;split
     ·rename_i e;exact⟨fun _=>e,fun _=>rfl⟩
     ·rename_i e;exact⟨fun h=>absurd h (GX z.1 e),fun h=>absurd h e⟩
    have cY:∀t j s,cj t c rb ch j s g (({a with aO:=a.aO.extract K a.aO.size}:Ck).heard g m)->cj t c rb ch j s g (a.iO g (m,(K:Int))):=fun t j s d=>by
     by_cases e:m.wh=4
     ·have e1:(({a with aO:=a.aO.extract K a.aO.size}:Ck).heard g m)=a.shut:=aM e;have e2:a.iO g (m,(K:Int))=a.shut:=aM e;rw[e2,<-e1];exact d
     ·have e2:a.iO g (m,(K:Int))=a.hear g (m,(K:Int)):=aD e;rw[e2];unfold Ck.heard at d;rw[aD e]at d;cases ha:accepted m with
      |true=>
       rw[ha]at d;refine d.like rfl ?_ rfl ⟨fun h=>absurd h (GX z.1 e),fun h=>absurd h z.1⟩;show(if accepted m then _ else _)=_;rw[ha];rfl
      |false=>
       rw[ha]at d;refine d.like rfl ?_ rfl ⟨fun h=>absurd h (GX z.1 e),fun h=>absurd h z.1⟩;show(if accepted m then _ else _)=_;rw[ha];rfl
    have DV:(∀r∈(a.iO g (m,(K:Int))).q,r.Ok)/\(a.iO g (m,(K:Int))).out.size<=4194304/\(a.iO g (m,(K:Int))).prom=k.prom:=by
     unfold Ck.iO;split
     ·exact⟨fun r hr=>(by cases hr),(by decide:(0:Nat)<=4194304),j1⟩
     ·rename_i e;refine⟨Pg (oU.snoc Y z p3 p4 e) B.q,?_,j1⟩;show(a.out++jd g m).size<=_;rw[ot];have:=Nj (g:=g) p5.nm;omega
    have HE:Hid (Calls prog 153 #[aF c,.agg (eU m)] y fun e t=>e=.returned (.tuple #[])/\∃j s,cj t c rb ch j s g (a.iO g (m,(K:Int)))/\
      aG (fun i=>i=c\/i=ch\/some i=C.ownBlock\/some i=D.ownBlock) W t/\t.heap[w.heap.size]? =some (.cells #[aF c] 119 (0,0))/\(∀x,j.ownBlock=some x->¬Aside rb mb b x)/\(∀x,s.ownBlock=some x->¬Aside rb mb b x)):=by
     refine(ZH c rb ch C D g _ m y P5 z.1 B.sz B.mx p5 p6 (by show a.out.size<=_;omega) (by show a.q.length<=_;omega)).mono ?_;rintro e t ⟨rfl,j,s,d,F,a6,b6⟩
     have fresh:∀(u u':au),(∀x,u.ownBlock=some x->¬Aside rb mb b x)->(u'.ownBlock=u.ownBlock\/∀x,u'.ownBlock=some x->y.heap.size<=x)->∀x,u'.ownBlock=some x->¬Aside rb mb b x:=fun u u' hu j4 x hx=>by
      rcases j4 with e|e
      ·exact hu x (e▸hx)
      ·have:=e x hx;have:=T5.size;rintro(h|h|h)<;>omega
     refine⟨rfl,j,s,cY _ _ _ d,(T5.mono fun i _ h=>.inl h).trans F,tM F X5 ?_,fresh C j q3 a6,fresh D s cC b6⟩;rintro(e|e|e|e)
     ·exact n2 e
     ·exact n4 e
     ·exact n5 e
     ·exact n6 e
    have cH:Hid (∀Q,aG (fun i=>i=c\/i=ch\/some i=C.ownBlock\/some i=D.ownBlock) W Q->Two (b+2) W Q/\wo rb mb b (b+1) W Q):=fun Q hT=>y8 hT (by rintro i (rfl|rfl|e|e);exact x1;exact x2;exact q3 i e.symm;exact cC i e.symm) ak ak ak
    obtain⟨d2,cO⟩:∃d2:Bool,(d2=true↔(a.iO g (m,(K:Int))).may g):=by
     by_cases e:(a.iO g (m,(K:Int))).may g
     ·exact⟨true,by simp[e]⟩
     ·exact⟨false,by simp[e]⟩
    have HR:Hid (∀t j s,cj t c rb ch j s g (a.iO g (m,(K:Int)))->bz 151 #[aF c] t (.bool d2)):=fun t j s d=>by
     obtain⟨d3,fH,dY⟩:=QE d DV.1 DV.2.1 (by rw[DV.2.2];have:=B.prom;omega)
     have:d3=d2:=by cases d2<;>cases d3<;>simp_all
     rw[<-this];exact dY
    have HD:Hid ((d2=true↔(a.iO g (m,(K:Int))).may g)/\((a.iO g (m,(K:Int))).ph=4↔m.wh=4)):=⟨cO,cP⟩;clear Y z p3 p4 p5 p6 q3 cC q7 q8 j1 j2 j3 cU dZ eb ej cP cY DV cO P5 M X5 T5 n2 n3 n4 n5 n6;unfold ReB;cases d2 with
    |true=>
     have bV:=aL (HD.out.1.1 rfl)
     gi_wp2_with (first|(refine⟨trivial,?_⟩;gi_at_call 153;refine(lV l (fT.2 HE.out)).mono ?_;rintro e t ⟨rfl,j,s,d,F,N,J,L⟩;have y6:=aE t w.heap.size 0 (aF c) N;have aU:Hid (cj t c rb ch j s g (a.iO g (m,(K:Int)))/\aG (fun i=>i=c\/i=ch\/some i=C.ownBlock\/some i=D.ownBlock) W t/\t.heap[w.heap.size]? =some (.cells #[aF c] 119 (0,0))/\(∀x,j.ownBlock=some x->¬Aside rb mb b x)/\(∀x,s.ownBlock=some x->¬Aside rb mb b x)):=⟨d,F,N,J,L⟩;clear d F N J L)|(refine⟨trivial,?_⟩;gi_at_call 151;refine(lV l (fT.2 (HR.out _ _ _ aU.out.1))).mono ?_;rintro e Q ⟨rfl,wM⟩))
     obtain⟨Y,z,p3,p4,p5,p6⟩:=HG.out;obtain⟨d,F,N,J,L⟩:=aU.out;have IQ:=bV.out;have X:m.wh≠4:=fun e=>IQ.1 (HD.out.2.2 e);have en:a.iO g (m,(K:Int))=a.hear g (m,(K:Int)):=aD X;have G6:=oU.snoc Y z p3 p4 X;rw[bg];obtain⟨t1,t2⟩:=cH.out Q (F.trans (.below wM));rw[en]at d IQ;exact⟨t1,t2,_,j,s,G6,IQ,d.old wM,J,L,bD wM N⟩
    |false=>
     have bV:Hid (¬(a.iO g (m,(K:Int))).may g):=fun e=>(by have:=HD.out.1.2 e;cases this)
     gi_wp2_with (first|(refine⟨trivial,?_⟩;gi_at_call 153;refine(lV l (fT.2 HE.out)).mono ?_;rintro e t ⟨rfl,j,s,d,F,N,J,L⟩;have y6:=aE t w.heap.size 0 (aF c) N;have aU:Hid (cj t c rb ch j s g (a.iO g (m,(K:Int)))/\aG (fun i=>i=c\/i=ch\/some i=C.ownBlock\/some i=D.ownBlock) W t/\t.heap[w.heap.size]? =some (.cells #[aF c] 119 (0,0))/\(∀x,j.ownBlock=some x->¬Aside rb mb b x)/\(∀x,s.ownBlock=some x->¬Aside rb mb b x)):=⟨d,F,N,J,L⟩;clear d F N J L)|(refine⟨trivial,?_⟩;gi_at_call 151;refine(lV l (fT.2 (HR.out _ _ _ aU.out.1))).mono ?_;rintro e Q ⟨rfl,wM⟩))
     obtain⟨Y,z,p3,p4,p5,p6⟩:=HG.out;obtain⟨d,F,N,J,L⟩:=aU.out;have cT:=bV.out;rw[bg];obtain⟨t1,t2⟩:=cH.out Q (F.trans (.below wM))
     by_cases X:m.wh=4
     ·have en:a.iO g (m,(K:Int))=a.shut:=aM X;obtain⟨j1,j2,j3⟩:=HI.out;rw[en]at d;refine⟨t1,t2,_,j,s,fun f P=>?_,d.old wM,J,L,fun h=>absurd rfl h,?_⟩
      ·obtain⟨f',rfl⟩:=UR P;have e:(pre++[(m,(K:Int))]).length+f'=pre.length+(f'+1):=bK;rw[e,JY Y,X7 z p3 p4 X]
      ·rw[St.Kj];show(if accepted m then _ else _)=a.us;have:accepted m=false:=by unfold accepted;simp[X]
       rw[this];exact j3
     ·have en:a.iO g (m,(K:Int))=a.hear g (m,(K:Int)):=aD X;have G6:=oU.snoc Y z p3 p4 X;obtain⟨r1,r2,r3⟩:=DK G6;rw[en]at d cT;refine⟨t1,t2,_,j,s,fun f P=>?_,d.old wM,J,L,fun _=>r1,r2⟩;obtain⟨f',rfl⟩:=UR P;rw[JY G6,Ry cT]
   gi_region<;>exact dA
  case done=>
   rintro H W ⟨hr,cr,aZ⟩ ⟨a,C,D,G,g2,O,g4,g5,U⟩ hD;obtain⟨i1,i2,i3⟩:=DK G;have ah:=Kk g.sz g.mx k.aO ⟨k.ph,k.us,0⟩ H (eE _) hr
   have hrd:Ck.read g (k.aO.size+1) k=a:=by obtain⟨f,P⟩:∃f,k.aO.size+1=H.length+f:=⟨k.aO.size+1-H.length,by have:=ah.1;have:=ah.2;simp only at*;omega⟩;rw[P,JY G,X4 (by rw[Pf G]at cr;exact cr)]
   have HQ:Hid (bM W c rb mb ch C D g (Ck.read g (k.aO.size+1) k)):=by rw[hrd];have bf:=aZ.rd;rw[i2]at bf;exact⟨O,_,bf,fun _=>i1.symm⟩
   clear hrd ah i1 i2 i3 G g2 O g4 g5 U hr cr aZ
   gi_wp2
   refine⟨aq,.inl ⟨_,_,rfl,Ct hD,.tuple #[],by simp[results,results100],rfl,_,_,HQ.out.off hD fun i hi=>eX hi⟩⟩
  case stop=>
   rintro pre W ⟨hr,aZ⟩ ⟨k2,C,D,G,O,g4,g5,U,g8⟩ hD;have ah:=Kk g.sz g.mx k.aO ⟨k.ph,k.us,0⟩ pre (eE _) hr;have hrd:Ck.read g (k.aO.size+1) k=k2:=G _ (by have:=ah.1;have:=ah.2;simp only at*;omega)
   have HQ:Hid (bM W c rb mb ch C D g (Ck.read g (k.aO.size+1) k)):=by rw[hrd];have bf:=aZ.rd;rw[g8]at bf;exact⟨O,_,bf,fun h=>(U h).symm⟩
   clear hrd ah G O g4 g5 U g8 hr aZ
   gi_wp2
   refine⟨aq,.inl ⟨_,_,rfl,Ct hD,.tuple #[],by simp[results,results100],rfl,_,_,HQ.out.off hD fun i hi=>eX hi⟩⟩
end
section
attribute [local go_sem ↓] Go.wp_at_zero Go.wp_at_succ
attribute [local go_sem] bq bg
open Go.Conc Go.RowKit
open Go.Proofs.Tryz
theorem dz.keep{w w' rb mb sz mx ph us}(h:dz w rb mb sz mx ph us)(a:w'.heap[rb]? =w.heap[rb]?)(b:w'.heap[mb]? =w.heap[mb]?):dz w' rb mb sz mx ph us:=⟨a.trans h.box,h.uses.block b⟩
section
variable {W W':an} {c rb mb ch:Nat} {q v:au} {g:Cf} {k k':Ck}
theorem bM.dQ(h:bM W c rb mb ch q v g k):rb<W.heap.size/\mb<W.heap.size:=by obtain⟨b,a,_⟩:=h.rd;exact a.lt
theorem bM.apart(h:bM W c rb mb ch q v g k):rb≠c/\mb≠c/\rb≠ch/\mb≠ch/\some rb≠q.ownBlock/\some mb≠q.ownBlock/\some rb≠v.ownBlock/\some mb≠v.ownBlock/\rb≠mb:=by
 obtain⟨y,a,_⟩:=h.rd;obtain⟨w,t,d,_⟩:=a.uses
 have key:∀{T m n:Nat} {u:au} {i:List au} {b:Nat} {o:Obj},W.ownsRow 0 T m u n i->W.heap[b]? =some o->(∀f,o≠.cells f T (0,0))->some b≠u.ownBlock:=fun{T m n u i b o} hr l r e=>by
  rcases hr.2 with⟨rfl,_⟩|⟨x,s,f,rfl,_,j,_⟩
  ·cases e
  ·cases e;exact r f (dm (l.symm.trans j))
 exact⟨eL a.box h.p.box aq,eL d h.p.box aq,eL a.box h.p.chan aq,eL d h.p.chan aq,key h.p.row a.box aq,key h.p.row d aq,key h.p.out a.box aq,key h.p.out d aq,eL a.box d aq⟩
theorem bM.of{q' v'}(h:bM W c rb mb ch q v g k)(j:cj W' c rb ch q' v' g k')(b:W'.heap[rb]? =W.heap[rb]?)(d:W'.heap[mb]? =W.heap[mb]?)(l:k'.us=k.us)(hf:k'.ph≠4->k'.ph=k.ph):bM W' c rb mb ch q' v' g k':=by obtain⟨m,f,i⟩:=h.rd;refine⟨j,m,l▸f.keep b d,fun e=>?_⟩;rw[hf e];exact i fun a=>e ((hf e).trans a)
theorem bM.put(h:bM W c rb mb ch q v g k)(i u)(b:(iJ g k rb q v ch).setIfInBounds i u=iJ g k' rb q v ch)(e:k'.q=k.q)(d:k'.out=k.out)(a:k'.ph=k.ph)(f:k'.us=k.us):bM (W.setCell (aa c i) u) c rb mb ch q v g k':=
 h.of (h.p.put i u b e d a) (bH h.apart.1) (bH h.apart.2.1) f fun _=>a
theorem bM.drew(h:bM W c rb mb ch q v g k):bM W.drew c rb mb ch q v g k:=⟨h.p.drew,h.rd.choose,⟨h.rd.choose_spec.1.box,h.rd.choose_spec.1.uses⟩,h.rd.choose_spec.2⟩
theorem bM.drewN(h:bM W c rb mb ch q v g k)(n):bM (W.drewN n) c rb mb ch q v g k:=⟨h.p.drewN n,h.rd.choose,⟨h.rd.choose_spec.1.box,h.rd.choose_spec.1.uses⟩,h.rd.choose_spec.2⟩
theorem bM.old(h:bM W c rb mb ch q v g k)(a:aB W W'):bM W' c rb mb ch q v g k:=
 h.of (h.p.old a) (a.block _ h.dQ.1) (a.block _ h.dQ.2) rfl fun _=>rfl
theorem bM.keep(h:bM W c rb mb ch q v g k){O:Nat->Prop}(a:O c/\O rb/\O mb/\O ch/\(∀b,q.ownBlock=some b->O b)/\∀b,v.ownBlock=some b->O b)(d:∀b,O b->b<W.heap.size->W'.heap[b]? =W.heap[b]?):bM W' c rb mb ch q v g k:=
 have l:=h.p.dQ;have f:=h.dQ
 h.of (h.p.keep (d _ a.1 l.1) (d _ a.2.2.2.1 l.2.1) (fun b e=>d b (a.2.2.2.2.1 b e) (l.2.2.1 b e)) fun b e=>d b (a.2.2.2.2.2 b e) (l.2.2.2 b e)) (d _ a.2.1 f.1) (d _ a.2.2.1 f.2) rfl fun _=>rfl
end
theorem Rn(c rb mb ch q v g k w)(h:bM w c rb mb ch q v g k):
  fE 114 #[jp c] w (aj k.ph):=by
 obtain⟨n,d,f⟩:=h.rd;have b:=h.p.chan;have i:=aE w c 20 (.chan (some ch)) h.p.box;have o:=aE w c 11 (aF rb) h.p.box;have m:=aE w rb 2 (aj n) d.box
 by_cases a:k.ph=4
 ·rw[iY a]at b;have l:=aL a;clear a d f h;go_enter func114,ntmps114;go_wp2_with (go_at_call 116;refine(Eb c ch _ i b).mono ?_;rintro e j ⟨rfl,rfl⟩);go_ret;exact⟨by rw[l.out];rfl,rfl⟩
 ·rw[ij a]at b;obtain rfl:=f a;clear a d f h;go_enter func114,ntmps114;go_wp2_with (first|(go_at_call 116;refine(yN c ch _ i b).mono ?_;rintro e j ⟨rfl,rfl⟩)|(go_at_call 170;refine(aau rb k.ph _ m).mono ?_;rintro e j ⟨rfl,rfl⟩));go_ret;exact⟨rfl,rfl⟩
def Ck.gone(k:Ck):Bool:=!decide (k.ph<3)&&(((k.q.length:Int)==0)&&(k.aZ==0)&&((k.out.size:Int)==0))
theorem w9(c rb mb ch q v g k w)(h:bM w c rb mb ch q v g k):
  fE 109 #[jp c] w (.bool k.gone):=by
 obtain⟨n,o,rfl,_⟩:=h.p.row.form;obtain⟨l,m,rfl⟩:=lT h.p.out;have r:=aE w c 13 (.slice n k.q.length o) h.p.box;have s:=aE w c 14 (aj k.aZ) h.p.box;have t:=aE w c 16 (.slice l k.out.size m) h.p.box;have b:=aL (Rn _ _ _ _ _ _ _ _ _ h);have a:Hid (k.gone=(!decide (k.ph<3)&&(((k.q.length:Int)==0)&&(k.aZ==0)&&((k.out.size:Int)==0)))):=rfl;generalize k.gone=G at*;clear h;cases d:decide (k.ph<3)with
 |true=>
  go_enter func109,ntmps109;go_wp2_with (go_at_call 114;refine b.out.mono ?_;rintro e i ⟨rfl,rfl⟩);go_ret;exact⟨by rw[a.out,d];rfl,rfl⟩
 |false=>
  cases f:((k.q.length:Int)==0)with
  |false=>
   go_enter func109,ntmps109;go_wp2_with (go_at_call 114;refine b.out.mono ?_;rintro e i ⟨rfl,rfl⟩);go_ret;exact⟨by rw[a.out,d,f];rfl,rfl⟩
  |true=>
   cases j:(k.aZ==0)with
   |false=>
    go_enter func109,ntmps109;go_wp2_with (go_at_call 114;refine b.out.mono ?_;rintro e i ⟨rfl,rfl⟩);go_ret;exact⟨by rw[a.out,d,f,j];rfl,rfl⟩
   |true=>
    go_enter func109,ntmps109;go_wp2_with (go_at_call 114;refine b.out.mono ?_;rintro e i ⟨rfl,rfl⟩);go_ret;exact⟨by rw[a.out,d,f,j];rfl,rfl⟩
def Ck.lose(k:Ck):Ck:={k with de:=0}
theorem E2(c rb mb ch q v g k w)(h:bM w c rb mb ch q v g k):
  Calls prog 167 #[jp c] w fun e a=>e=.returned (.tuple #[])/\bM a c rb mb ch q v g k.lose/\aG (fun i=>i=c) w a:=by
 have b:Hid (bM (w.setCell (aa c 18) (aj 0)) c rb mb ch q v g k.lose):=h.put 18 _ rfl rfl rfl rfl rfl;have d:=aE w c 18 (aj k.de) h.p.box;have f18:=aS h.p.box 18;go_enter func167,ntmps167;go_wp2;exact dZ rfl rfl ⟨rfl,b.out,(aG.refl (fun i=>i=c) w).set rfl _⟩
def Ck.mA(g:Cf)(k:Ck):Ck:={k with tok:=min (k.tok+g.rt) g.bu}
theorem XO(c rb mb ch q v g k w)(h:bM w c rb mb ch q v g k)(hr:0<=g.rt/\g.rt<=65535)(m:0<=k.tok/\k.tok<=65535):
  Calls prog 60 #[jp c] w fun e a=>e=.returned (.tuple #[])/\bM a c rb mb ch q v g (k.mA g)/\aG (fun i=>i=c) w a:=by
 have b:Hid (bM (w.drew.setCell (aa c 17) (aj (min (gU.wrap (k.tok+g.rt)) g.bu))) c rb mb ch q v g (k.mA g)):=by rw[pP ak ak];exact h.drew.put 17 _ rfl rfl rfl rfl rfl
 have f:=aE w c 7 (aj g.rt) h.p.box;have j:=aE w c 8 (aj g.bu) h.p.box;have d:=aE w c 17 (aj k.tok) h.p.box;have f17:=aS h.p.box 17;clear h;go_enter func60,ntmps60
 go_upto_region 0 with fail
 refine gW ?_;refine dh (S:=fun W=>W.cell? (aa c 7)=some (aj g.rt)/\W.cell? (aa c 8)=some (aj g.bu)/\W.cell? (aa c 17)=some (aj k.tok)) 19 aI ⟨f,j,d⟩ ?_;intro hS;refine gk 0 ?_;refine gk 1 ?_;refine gk 2 ?_;refine gk 3 ?_;refine gs 4 ?_;refine gk 5 ?_;refine gk 6 ?_;refine gk 7 ?_;refine gk 8 ?_;refine gs 9 ?_;refine gk 10 ?_;refine gk 11 ?_;refine gk 12 ?_;refine gk 13 ?_;refine gk 14 ?_;refine gs 15 ?_;refine gk 16 ?_;refine gk 17 ?_;refine gk 18 ?_;refine gz fun K l=>?_;go_simp;refine l.out _ _ ?_;refine dJ aI ?_ _;refine gp ?_;go_wp2;exact dZ rfl rfl ⟨rfl,b.out,(aG.refl (fun i=>i=c) w).drew'.set (p:=aa c 17) rfl _⟩
def Ck.open(g:Cf)(k:Ck):Ck:={k with de:=k.de+k.wt*g.qn}
theorem P8(c rb mb ch q v g k w)(h:bM w c rb mb ch q v g k)(a:0<=g.qn/\g.qn<=65535)(b:0<=k.wt/\k.wt<=65535)(o:0<=k.de/\k.de<=1048576):
  Calls prog 165 #[jp c] w fun e d=>e=.returned (.tuple #[])/\bM d c rb mb ch q v g (k.open g)/\aG (fun i=>i=c) w d:=by
 have r:0<=k.wt*g.qn:=Int.mul_nonneg b.1 a.1
 have s:k.wt*g.qn<=4294836225:=by have:=Int.mul_le_mul b.2 a.2 a.1 ak;omega
 have f:Hid (bM (w.drew.setCell (aa c 18) (aj (gU.wrap (k.de+gU.wrap (k.wt*g.qn))))) c rb mb ch q v g (k.open g)):=by rw[pP (x:=k.wt*g.qn) ak ak,pP (x:=k.de+k.wt*g.qn) ak ak];exact h.drew.put 18 _ rfl rfl rfl rfl rfl
 have j:=aE w c 1 (aj k.wt) h.p.box;have m:=aE w c 6 (aj g.qn) h.p.box;have l:=aE w c 18 (aj k.de) h.p.box;have f18:=aS h.p.box 18;clear h;go_enter func165,ntmps165
 go_upto_region 0 with fail
 refine gW ?_;refine dh (S:=fun W=>W.cell? (aa c 1)=some (aj k.wt)/\W.cell? (aa c 6)=some (aj g.qn)/\W.cell? (aa c 18)=some (aj k.de)) 17 aI ⟨j,m,l⟩ ?_;intro hS;refine gk 0 ?_;refine gk 1 ?_;refine gk 2 ?_;refine gs 3 ?_;refine gk 4 ?_;refine gk 5 ?_;refine gk 6 ?_;refine gs 7 ?_;refine gk 8 ?_;refine gk 9 ?_;refine gk 10 ?_;refine gk 11 ?_;refine gs 12 ?_;refine gk 13 ?_;refine gk 14 ?_;refine gk 15 ?_;refine gk 16 ?_;refine gz fun K n=>?_;go_simp;refine n.out _ _ ?_;refine dJ aI ?_ _;refine gp ?_;go_wp2;exact dZ rfl rfl ⟨rfl,f.out,(aG.refl (fun i=>i=c) w).drew'.set (p:=aa c 18) rfl _⟩
def cg(n:Int):List Rq->List Rq×Int
 |[]=>([],n)
 |r::t=>if r.no= -1 then(⟨r.m,n⟩::(cg (n+1) t).1,(cg (n+1) t).2)else(r::(cg n t).1,(cg n t).2)
theorem yR(l):∀n,(cg n l).1.length=l.length:=by
 induction l with
 |nil=>intro n;rfl
 |cons r t a=>intro n;unfold cg;split<;>simp[a]
theorem JC(l):∀n,n<=(cg n l).2/\(cg n l).2<=n+l.length:=by
 induction l with
 |nil=>intro n;simp[cg]
 |cons r t a=>
  intro n;unfold cg;split
  ·have:=a (n+1);simp;omega
  ·have:=a n;simp;omega
theorem M0(a b):∀n,cg n (a++b)=((cg n a).1++(cg (cg n a).2 b).1,(cg (cg n a).2 b).2):=by
 induction a with
 |nil=>intro n;simp[cg]
 |cons r t c=>
  intro n;simp only[jR,cg];split<;>simp[c]
theorem N7{l:List Rq}{i:Nat}{r:Rq}(h:l[i]? =some r)(n):cg n (l.take (i+1))=if r.no= -1 then((cg n (l.take i)).1++[⟨r.m,(cg n (l.take i)).2⟩],(cg n (l.take i)).2+1)else((cg n (l.take i)).1++[r],(cg n (l.take i)).2):=by
 rw[sr,h];rw[M0]
 by_cases e:r.no= -1
 ·simp[cg,e]
 ·simp[cg,e]
theorem OK{α:Type}(F:α->List au)(K)(hF:∀x,(F x).length=K):∀(l:List α) (i j:Nat) (x y:α) (u:au),l[i]? =some x->j<K->F y=(F x).set j u->(l.set i y).flatMap F=(l.flatMap F).set (i*K+j) u:=by
 intro l;induction l with
 |nil=>intro i j x y u h;simp at h
 |cons a t d=>
  intro i j x y u h c b;cases i with
  |zero=>
   simp at h;subst h;simp;rw[Mc,aM (by grind),b]
  |succ i=>
   simp at h;have e:(i+1) *K+j=K+(i*K+j):=by grind
   simp;rw[d i j x y u h c b,e,Mc,aD (by grind),hF]
   congr 2
   omega
theorem cj.Z3{W c rb ch gb n cap i v g k r}(h:cj W c rb ch (.slice (some (aa gb 0)) n cap) v g k)(o:k.q[i]? =some r)(no):
  cj (W.setCell (aa gb (i*10+9)) (aj no)) c rb ch (.slice (some (aa gb 0)) n cap) v g {k with q:=k.q.set i ⟨r.m,no⟩}:=by
 obtain⟨a1,s,a3,t,D,p⟩:=h.apart;have off:∀b,b≠gb->(W.setCell (aa gb (i*10+9)) (aj no)).heap[b]? =W.heap[b]? :=fun b l=>bH l;have H:i<k.q.length:=(ed.1 o).1;refine⟨(off c fun e=>s (by rw[e];rfl)).trans h.box,?_,gm h.out fun b e=>off b fun f=>p gb rfl (by rw[e,f]),?_,h.tv.keep fun b e=>off b fun f=>p gb rfl (by rw[e,f]),(off ch fun e=>t (by rw[e];rfl)).trans h.chan⟩
 ·have a:(k.q.set i ⟨r.m,no⟩).length=k.q.length:=aq;refine⟨?_,?_⟩
  ·rw[OK (fun r=>(aC r).toList) 10 (fun _=>rfl) k.q i 9 r ⟨r.m,no⟩ (aj no) o ak rfl,oz,a];exact h.row.1
  ·rcases h.row.2 with⟨e,_⟩|⟨G,E,F,e,j,y,z,A,B,C⟩
   ·cases e
   ·cases e;refine .inr ⟨gb,cap,_,by rw[a],j,bV y (i*10+9) _,by rw[a];exact z,A,by simpa using B,?_⟩;rw[OK (fun r=>(aC r).toList) 10 (fun _=>rfl) k.q i 9 r ⟨r.m,no⟩ (aj no) o ak rfl,<-C,a,BE,List.take_set]
 ·obtain⟨x,T,w,j⟩:=h.tq gb rfl;intro b l;cases l;refine⟨_,T,bV w (i*10+9) _,fun u d=>?_⟩;rw[BE]at d;rcases Gk d with d|rfl
  ·exact j u d
  ·trivial
theorem L9(c rb mb ch q v g k n w)(h:bM w c rb mb ch q v g k)(Z:0<=n/\n<=281474976710656)(W:k.q.length<=1048576):
  Calls prog 102 #[jp c,aj n] w fun e G=>e=.returned (aj (cg n k.q).2)/\bM G c rb mb ch q v g {k with q:=(cg n k.q).1}/\aG (fun b=>some b=q.ownBlock) w G:=by
 obtain⟨l,a,rfl,_⟩:=h.p.row.form;have P:=aE w c 13 (.slice l k.q.length a) h.p.box;have t:=aL h;clear h;go_enter func102,ntmps102;go_wp2
 go_loopw [1,5,11] (fun M _ D wr=>∃i:Nat,i<=k.q.length/\D=aj (i:Int)/\M=aj (cg n (k.q.take i)).2/\Hid (cj wr c rb ch (.slice l k.q.length a) v g {k with q:=(cg n (k.q.take i)).1++k.q.drop i}/\aG (fun b=>some b=(eF l k.q.length a).ownBlock) w wr)) (fun _ _ D _=>k.q.length-(intOf D).toNat)
 case atStart=>exact⟨0,eE _,rfl,rfl,t.out.p,aG.refl _ _⟩
 case round=>
  obtain⟨i,V,rfl,rfl,hR⟩:=hrel
  by_cases x:i<k.q.length
  ·have K:(i:Int)<(k.q.length:Int):=ak;obtain⟨r,hr⟩:∃r,k.q[i]? =some r:=⟨k.q[i],dN x⟩;have j:=N7 hr n
   have y:((cg n (k.q.take i)).1++k.q.drop i)[i]? =some r:=by rw[qN (by rw[yR];simp;omega),yR,Gg,qP,oI ak];simpa using hr
   have X:=JC (k.q.take i) n;have af:(k.q.take i).length<=1048576:=bK;have S:=aE wr c 13 (.slice l k.q.length a) hR.out.1.box;have Y:((cg n (k.q.take i)).1++k.q.drop i).length=k.q.length:=by rw[ia,yR];simp;omega
   have z:gX wr (.slice l k.q.length a) ((cg n (k.q.take i)).1++k.q.drop i):=hR.out.1.row;obtain⟨f,rfl,k0,k1,k2,k3,k4,k5,k6,k7,k8,k9⟩:=z.at y
   have C:((cg n (k.q.take i)).1++k.q.drop i).set i ⟨r.m,(cg n (k.q.take i)).2⟩=(cg n (k.q.take i)).1++[⟨r.m,(cg n (k.q.take i)).2⟩]++k.q.drop (i+1):=by
    have L:(cg n (k.q.take i)).1.length=i:=by rw[yR];simp;omega
    rw[Mc,aD ak,L,Nat.sub_self,BQ]
    congr 1
    rw[zT x];rfl
   have B:k.q.drop i=r::k.q.drop (i+1):=by
    rw[zT x]
    congr 1
    rw[dN x]at hr;exact dm hr
   have f9:wr.frozen? (aa f (i*10+9))=false:=by
    rcases z.2 with⟨e,_⟩|⟨T,Q,R,e,U,J,_⟩
    ·cases e
    ·injection e with d;injection d with d;injection d with d;subst d;exact aS J _
   have A:=hR.out.1.Z3 y (cg n (k.q.take i)).2;cases E:(r.no==-1)with
   |true=>
    have d:r.no= -1:=by simpa using E
    rw[aM d]at j
    have o:Hid (cj (wr.setCell (aa f (i*10+9)) (aj (cg n (k.q.take i)).2)) c rb ch (.slice (some (aa f 0)) k.q.length a) v g {k with q:=(cg n (k.q.take (i+1))).1++k.q.drop (i+1)}/\aG (fun b=>some b=(eF (some (aa f 0)) k.q.length a).ownBlock) w (wr.setCell (aa f (i*10+9)) (aj (cg n (k.q.take i)).2))):=by refine⟨?_,hR.out.2.set (p:=aa f (i*10+9)) rfl _⟩;rw[j];show cj _ _ _ _ _ _ _ {k with q:=(cg n (k.q.take i)).1++[⟨r.m,(cg n (k.q.take i)).2⟩]++k.q.drop (i+1)};rw[<-C];exact A
    have u:Hid ((cg n (k.q.take (i+1))).2=(cg n (k.q.take i)).2+1):=by show _=_;rw[j]
    clear A j C B z y;generalize (cg n (k.q.take i)).2=F at*;go_wp2;refine⟨⟨i+1,ak,by go_num,?_,o.out⟩,?_⟩
    ·rw[u.out]
    ·simp[intOf];omega
   |false=>
    have d:¬r.no= -1:=by simpa using E
    rw[aD d]at j
    have o:Hid (cj wr c rb ch (.slice (some (aa f 0)) k.q.length a) v g {k with q:=(cg n (k.q.take (i+1))).1++k.q.drop (i+1)}/\aG (fun b=>some b=(eF (some (aa f 0)) k.q.length a).ownBlock) w wr):=by refine⟨?_,hR.out.2⟩;rw[j];show cj _ _ _ _ _ _ _ {k with q:=(cg n (k.q.take i)).1++[r]++k.q.drop (i+1)};rw[BQ];show cj _ _ _ _ _ _ _ {k with q:=(cg n (k.q.take i)).1++(r::k.q.drop (i+1))};rw[<-B];exact hR.out.1
    have u:Hid ((cg n (k.q.take (i+1))).2=(cg n (k.q.take i)).2):=by show _=_;rw[j]
    clear A j C B z y;generalize (cg n (k.q.take i)).2=F at*;go_wp2;refine⟨⟨i+1,ak,by go_num,?_,o.out⟩,?_⟩
    ·rw[u.out]
    ·simp[intOf];omega
  ·have K:¬(i:Int)<(k.q.length:Int):=ak;have e:i=k.q.length:=ak;subst e;have s:=hR.out;rw[vT,List.drop_length,xK]at s
   have o:Hid (bM wr c rb mb ch (.slice l k.q.length a) v g {k with q:=(cg n k.q).1}/\aG (fun b=>some b=(eF l k.q.length a).ownBlock) w wr):=by obtain⟨a1,N,a3,O,H,I,_⟩:=t.out.apart;exact⟨t.out.of s.1 (s.2.block _ t.out.dQ.1 H) (s.2.block _ t.out.dQ.2 I) rfl fun _=>rfl,s.2⟩
   have u:Hid ((cg n (k.q.take k.q.length)).2=(cg n k.q).2):=by show _=_;rw[vT]
   clear hR s;generalize (cg n (k.q.take k.q.length)).2=F at*;go_wp2;go_ret;exact⟨by rw[<-u.out];rfl,o.out.1,o.out.2⟩
end
section
attribute [local go_sem ↓] Go.wp_at_zero Go.wp_at_succ
attribute [local go_sem] bq bg
open Go.ChangeMaps Go.Conc Go.Maps Go.RowKit Go.WideElems
open Go.Proofs.Tryz
theorem abf{H:Type}{Kd}(O:OneKind Kd)(u:DataW H):∀acc:List Lit,(∀x∈acc,Kd x)->(∀x∈acc,Ms x)->acc.Nodup->zV u acc.reverse=.map ((acc.map fun x=>(x,u)).foldr Ug []):=by
 intro acc;induction acc with
 |nil=>intros;rfl
 |cons x t k=>
  intro b f j;have c:=List.nodup_cons.1 j;rw[List.reverse_cons,Maps.setOf_snoc,k (fun y a=>b y (by simp[a])) (fun y a=>f y (by simp[a])) c.2]
  have g:Keys Kd (t.map fun x=>(x,u)):=fun p d=>by obtain⟨y,a,rfl⟩:=iV.1 d;exact b y (by simp[a])
  have h:(t.map fun x=>(x,u)).Pairwise (fun p q=>p.1≠q.1):=by rw[BZ];exact c.2
  have i:(t.map fun x=>(x,u)).filter (notKey x)=t.map fun x=>(x,u):=by rw[Ge];intro p d;obtain⟨y,a,rfl⟩:=iV.1 d;rw[notKey_iff (f x aq)];exact fun e=>c.1 (by rw[<-e];exact a)
  have:=Maps.sorted_put (E':=(x,u)::t.map fun x=>(x,u)) O (b x aq) g h (by rw[i]);show DataW.map (putKey x u _)=_;rw[<-this];rfl
theorem QY{α:Type}{l:List α}(h:l.Nodup):l.reverse.Nodup:=by show l.reverse.Pairwise _;rw[List.pairwise_reverse];exact h.imp cW
theorem abe{H:Type}{b:Lit->Prop}(O:OneKind b)(u:DataW H)(acc)(k:Lit)(p:Lit->Bool)(d:∀x∈acc,(p x=true↔x≠k))(e:∀x∈acc,b x)(o:∀x∈acc,Ms x)(n:Ms k)(c:acc.Nodup):
  (zV u acc).del k=zV u (acc.filter p)/\Maps.size (zV u (acc.filter p))=(acc.filter p).length:=by
 have hr:∀l:List Lit,(∀x∈l,x∈acc)->l.Nodup->zV u l=.map ((l.reverse.map fun x=>(x,u)).foldr Ug []):=fun l hm r=>by have:=abf O u l.reverse (fun x a=>e x (hm x (by simpa using a))) (fun x a=>o x (hm x (by simpa using a))) (QY r);rw[List.reverse_reverse]at this;exact this
 have s:∀x∈acc.filter p,x∈acc:=fun x a=>(vR.1 a).1;have g:=hr _ s (c.filter _);rw[g,hr acc (fun _ h=>h) c]
 have i:Keys b (acc.reverse.map fun x=>(x,u)):=fun p d=>by obtain⟨y,t,rfl⟩:=iV.1 d;exact e y (by simpa using t)
 have j:(acc.reverse.map fun x=>(x,u)).Pairwise (fun p q=>p.1≠q.1):=by rw[BZ];exact QY c
 have m:((acc.filter p).reverse.map fun x=>(x,u))=(acc.reverse.map fun x=>(x,u)).filter (notKey k):=by
  rw[<-List.filter_reverse,UD]
  congr 1
  apply List.filter_congr;intro x a;have f:notKey k (x,u)=true↔x≠k:=notKey_iff n;exact xC.2 ((d x (by simpa using a)).trans f.symm)
 refine⟨?_,?_⟩
 ·show DataW.map (delKey k _)=_;rw[Maps.sorted_del (E':=(acc.filter p).reverse.map fun x=>(x,u)) O i j (by rw[m])]
 ·rw[Maps.size_eq,length_sorted];simp
theorem Q6{H:Type}{w:an}{P:Program}{k:TypeId}{R:au->Option (DataW H×List MemPlace)}{b n:Nat}{D:DataW H}(h:w.ownsMap P k R b n D):w.ownsMap P k R b (Maps.size D) D:=by obtain⟨d,c,e,f,g,a⟩:=h;refine⟨d,c,e,f,?_,a⟩;rw[a,Maps.size_eq,length_read];exact aV _
theorem aeu{w:an}{mb:Nat}{us:List Int}(h:Uses w mb us)(l:us.Nodup)(hr:∀x∈us,0<=x/\x<=65535)(ck)(i:0<=ck/\ck<=65535){w':an}(d:w'.ownsMap prog 3 (unitElem (H:=Unit)) mb us.length ((zV (.agg []) (us.map (Ca .i64))).del (.int .i64 ck))):
  Uses w' mb (us.filter fun x=>decide (x≠ck)):=by
 have c:∀x:Int,0<=x/\x<=65535->keyOf prog 3 (.int .i64 x)=some (.int .i64 x):=fun x a=>Maps.keyOf_int_mk underlying3 (by simp[Lit.wf,IntKind.min,IntKind.max,IntKind.signed,IntKind.bits];omega)
 have k:(us.map (Ca .i64)).Nodup:=by rw[List.nodup_iff_pairwise_ne,BZ];exact l.imp fun h e=>h (by injection e)
 obtain⟨f,g⟩:=abe (Cb underlying3).one (.agg []) (us.map (Ca .i64)) (.int .i64 ck) (fun x=>match x with|.int _ y=>decide (y≠ck)|_=>true) (fun x a=>by
  obtain⟨y,b,rfl⟩:=iV.1 a;simp) (fun x a=>by
  obtain⟨y,b,rfl⟩:=iV.1 a;exact⟨_,c y (hr y b)⟩) (fun x a=>by
  obtain⟨y,b,rfl⟩:=iV.1 a;exact(Cb underlying3).key (c y (hr y b))) ((Cb underlying3).key (c ck i)) k
 have j:(us.map (Ca .i64)).filter (fun x=>match x with|.int _ y=>decide (y≠ck)|_=>true)=(us.filter fun x=>decide (x≠ck)).map (Ca .i64):=by rw[UD];rfl
 rw[f]at d;have:=Q6 d;rw[g,j,pV]at this;unfold Uses;exact this
end
section
attribute [local go_sem ↓] Go.wp_at_zero Go.wp_at_succ
attribute [local go_sem] bq bg
open Go.Conc Go.RowKit
open Go.Proofs.Tryz
def yu(W:an)(g:Nat):Prop:=∃x T,W.heap[g]? =some (.cells x T (0,0))/\∀u∈x.toList,kW u
theorem yu.sets{g}:∀(vs:List au) (o:Nat) (W:an),yu W g->(∀u∈vs,kW u)->yu (W.setCells g o vs) g
 |[],_,_,h,_=>h
 |u::vs,o,W,⟨x,T,b,d⟩,hv=>by
  refine yu.sets vs (o+1) (W.setCell (aa g o) u) ⟨_,T,bV b o u,fun y a=>?_⟩ fun y a=>hv y (by simp[a]);rw[BE]at a;rcases Gk a with a|rfl
  ·exact d y a
  ·exact hv y aq
theorem Io(r):∀u∈(aC r).toList,kW u:=fun u a=>by simp at a;rcases a with rfl|rfl|rfl|rfl|rfl|rfl|rfl|rfl|rfl|rfl<;>trivial
theorem Yw(l:List Rq):∀u∈l.flatMap (fun r=>(aC r).toList),kW u:=fun u a=>by obtain⟨r,_,hr⟩:=BW.1 a;exact Io r u hr
theorem P4(l:List Rq):∀u∈l.flatMap (fun r=>(aC r).toList),u.oneCell'=true:=fun u a=>by obtain⟨r,_,hr⟩:=BW.1 a;simp at hr;rcases hr with rfl|rfl|rfl|rfl|rfl|rfl|rfl|rfl|rfl|rfl<;>rfl
theorem Xs{v r l}(w:an)(h:gX w v (r::l))(x:mq w v):
  Calls prog 269 #[v,aj 0,aj 1] w fun e f=>∃d,e=.returned d/\gX f d l/\aG (fun b=>some b=v.ownBlock) w f/\d.ownBlock=v.ownBlock/\mq f d:=by
 have n:(l.flatMap (fun r=>(aC r).toList)).length=l.length*10:=by have:=h.1;rw[vO,ia]at this;have e:(aC r).toList.length=10:=rfl;have A:(r::l).length=l.length+1:=rfl;omega
 rcases h.2 with⟨_,h0⟩|⟨g,p,s,rfl,C,m,o,i,j,y⟩
 ·simp at h0
 ·refine(Xt g (l.length+1) p (l.flatMap fun r=>(aC r).toList) s w ak o i n (P4 l) m j (take_at y rfl)).mono ?_;rintro e f ⟨rfl,rfl⟩;obtain⟨a,b⟩:=NP (zs:=zsQ) m j o i n rfl;refine⟨_,rfl,a,⟨b.os,b.size,fun k u z=>b.block k u fun e=>z (by rw[e];rfl)⟩,rfl,fun B t=>?_⟩;cases t;have h0:yu w.drew g:=x g rfl;exact(h0.sets _ 0 _ (Yw l)).sets zsQ _ _ (Io ⟨⟨0,⟨#[]⟩,0,0,0,0,0,⟨#[]⟩,0⟩,0⟩)
def Ck.bF(k:Ck)(r:Rq)(l:List Rq):Ck:={k with q:=l,tok:=k.tok-1,de:=k.de-cJ r.m,sv:=k.sv+cJ r.m,aZ:=k.aZ+1,prom:=k.prom+sizeOf' r.m}
structure jC(w W:an)(c rb ch:Nat)(q0 q v:au)(g:Cf)(k:Ck)(r:Rq)(b0 b1:Nat):Prop where
 p:cj W c rb ch q v g k
 z:jW W b0
 b:W.heap[b1]? =some (.cells (aC r) 134 (0,0))
 t:aG (fun b=>b=c\/some b=q0.ownBlock) w W
section
variable {w W W':an} {c rb ch b0 b1:Nat} {q0 q v:au} {g:Cf} {k k':Ck} {r:Rq}
theorem jC.drew(h:jC w W c rb ch q0 q v g k r b0 b1):jC w W.drew c rb ch q0 q v g k r b0 b1:=⟨h.p.drew,h.z,h.b,h.t.drew⟩
theorem jC.old(h:jC w W c rb ch q0 q v g k r b0 b1)(a:aB W W'):jC w W' c rb ch q0 q v g k r b0 b1:=⟨h.p.old a,bD a h.z,bD a h.b,h.t.trans (aG.below a)⟩
theorem jC.put(h:jC w W c rb ch q0 q v g k r b0 b1)(i u)(a:(iJ g k rb q v ch).setIfInBounds i u=iJ g k' rb q v ch)(f:k'.q=k.q)(d:k'.out=k.out)(e:k'.ph=k.ph):jC w (W.setCell (aa c i) u) c rb ch q0 q v g k' r b0 b1:=
 ⟨h.p.put i u a f d e,mU h.z (eL h.z h.p.box aq) _ _,mU h.b (eL h.b h.p.box aq) _ _,h.t.set (.inl rfl) _⟩
abbrev DsS(c b1:Nat)(k:Ck)(r:Rq)(W:an):Prop:=(W.cell? (aa c 18)=some (aj k.de)/\W.cell? (aa c 19)=some (aj k.sv)/\W.cell? (aa c 15)=some (aj k.prom))/\bQ W b1 r
theorem jC.s(h:jC w W c rb ch q0 q v g k r b0 b1):DsS c b1 k r W:=⟨⟨av h.p.box rfl,av h.p.box rfl,av h.p.box rfl⟩,bQ.of h.b⟩
theorem adO(W B u0 u1 u2 u3 u4 u5 u6 u7 u8 u9):aG (fun b=>b=B) W ((((((((((W.setCell (aa B 0) u0).setCell (aa B 1) u1).setCell (aa B 2) u2).setCell (aa B 3) u3).setCell (aa B 4) u4).setCell (aa B 5) u5).setCell (aa B 6) u6).setCell (aa B 7) u7).setCell (aa B 8) u8).setCell (aa B 9) u9):=
 (((((((((((aG.refl (fun b=>b=B) W).set (p:=aa B 0) rfl u0).set (p:=aa B 1) rfl u1).set (p:=aa B 2) rfl u2).set (p:=aa B 3) rfl u3).set (p:=aa B 4) rfl u4).set (p:=aa B 5) rfl u5).set (p:=aa B 6) rfl u6).set (p:=aa B 7) rfl u7).set (p:=aa B 8) rfl u8).set (p:=aa B 9) rfl u9)
theorem jC.fin{mb gb L qc a}(h:jC w W c rb ch (.slice (some (aa gb 0)) L qc) a v g k r w.heap.size b1){k0}(h0:bM w c rb mb ch (.slice (some (aa gb 0)) L qc) v g k0)(o:k.us=k0.us)(m:k.ph=k0.ph)(n:a.ownBlock=some gb)(f:aG (fun b=>b=w.heap.size) W W'):
  ∃a,bM W' c rb mb ch a v g k/\aG (fun b=>b=c\/some b=(eF (some (aa gb 0)) L qc).ownBlock) w W'/\a.ownBlock=(eF (some (aa gb 0)) L qc).ownBlock:=by
 have d:=h.t;obtain⟨a1,A,a3,B,C,D,E,F,G⟩:=h0.apart;obtain⟨j,l⟩:=h0.dQ;obtain⟨u,x,y,z⟩:=h0.p.dQ;have H:=y gb rfl;have sz:=d.size;have off:∀b,b<w.heap.size->W'.heap[b]? =W.heap[b]? :=fun b i=>f.block b ak ak;refine⟨a,h0.of (h.p.keep (off c u) (off ch x) (fun b e=>off b (by grind)) fun b e=>off b (z b e)) ?_ ?_ o fun _=>m,⟨f.os.trans d.os,cS sz f.size,fun b i s=>(off b i).trans (d.block b i s)⟩,n⟩
 ·exact(off rb j).trans (d.block rb j (by grind))
 ·exact(off mb l).trans (d.block mb l (by grind))
end
theorem NX(c rb mb ch q v g k r l w)(h:bM w c rb mb ch q v g k)(hq:k.q=r::l)(hr:r.Ok)(ht:0<=k.tok/\k.tok<=65535)(hd:0<=k.de/\k.de<=1048576)(hs:0<=k.sv/\k.sv<=281474976710656)(hf:0<=k.aZ/\k.aZ<=1048576)(hp:0<=k.prom/\k.prom<=4194304):
  Calls prog 242 #[jp c] w fun e y=>e=.returned (.agg (aC r))/\∃E,bM y c rb mb ch E v g (k.bF r l)/\aG (fun b=>b=c\/some b=q.ownBlock) w y/\E.ownBlock=q.ownBlock:=by
 have G:=h.p.row;rw[hq]at G;obtain⟨qa,t,rfl,_⟩:=G.form;have cz:=aE w c 13 (.slice qa (r::l).length t) h.p.box;obtain⟨d,rfl,k0,k1,k2,k3,k4,k5,k6,k7,k8,k9⟩:=G.at (i:=0) rfl;simp at k0 k1 k2 k3 k4 k5 k6 k7 k8 k9;have hc:c<w.heap.size:=h.p.dQ.1;have hg:d<w.heap.size:=gM k0;have cH:(0:Int)<((r::l).length:Int):=by simp only[eD];omega
 have e0:cJ r.m=r.m.ln\/cJ r.m=4:=by unfold cJ;split;exact .inr rfl;exact .inl rfl
 have e1:sizeOf' r.m=4+r.m.ln\/sizeOf' r.m=4:=by unfold sizeOf';split;exact .inl rfl;exact .inr rfl
 have cE:0<=cJ r.m/\cJ r.m<=65535:=by have:=hr.lR;have:=hr.pG;omega
 have cN:0<=sizeOf' r.m/\sizeOf' r.m<=65539:=by have:=hr.lR;have:=hr.pG;omega
 have T:aB w ((w.alloc (.cells jL 134)).alloc (.cells (aC r) 134)):=aR.alloc aq _;have az:((w.alloc (.cells jL 134)).alloc (.cells (aC r) 134)).heap[w.heap.size]? =some (.cells jL 134 (0,0)):=(Below.heap_alloc _ _ _ aq).trans (bW w _)
 have Pq:((w.alloc (.cells jL 134)).alloc (.cells (aC r) 134)).heap[w.heap.size+1]? =some (.cells (aC r) 134 (0,0)):=by have:=bW (w.alloc (.cells jL 134)) (.cells (aC r) 134);rw[World.size_alloc]at this;exact this
 have HD:Hid (Calls prog 269 #[.slice (some (aa d 0)) (r::l).length t,aj 0,aj 1] ((w.alloc (.cells jL 134)).alloc (.cells (aC r) 134)) fun e y=>∃f x j,e=.returned (.slice f x j)/\jC w (y.setCell (aa c 13) (.slice f x j)) c rb ch (.slice (some (aa d 0)) (r::l).length t) (.slice f x j) v g {k with q:=l} r w.heap.size (w.heap.size+1)/\(eF f x j).ownBlock=some d/\y.heap[c]? =some (.cells (iJ g k rb (.slice (some (aa d 0)) (r::l).length t) v ch) 168 (0,0))):=by
  have P:=h.p.old T;have bn:gX _ _ (r::l):=hq▸P.row;obtain⟨a1,a2,a3,a4,a5,a6⟩:=P.apart;refine(Xs _ bn P.tq).mono ?_;rintro e y ⟨v',rfl,d1,d2,d3,d4⟩;obtain⟨f,j,rfl,_⟩:=d1.form;have H:=P.dQ;have off:∀b,b≠c->(y.setCell (aa c 13) (.slice f l.length j)).heap[b]? =y.heap[b]? :=fun b hb=>bH hb;have yL:=(d2.block c H.1 a2).trans P.box;have nq:∀b,(eF f l.length j).ownBlock=some b->b≠c:=fun b e A=>a2 (by rw[<-A,<-d3,e]);have nv:∀b,v.ownBlock=some b->some b≠(eF (some (aa d 0)) (r::l).length t).ownBlock:=fun b e A=>a6 b A.symm e.symm;have I:w.heap.size≠d/\w.heap.size+1≠d/\w.heap.size≠c/\w.heap.size+1≠c:=ak;refine⟨_,_,_,rfl,⟨⟨bV yL 13 _,gm d1 fun b e=>off b (nq b e),gm P.out fun b e=>(off b fun A=>a3 (by rw[e,A])).trans (d2.block b (H.2.2.2 b e) (nv b e)),d4.keep fun b e=>off b (nq b e),P.tv.keep fun b e=>(off b fun A=>a3 (by rw[e,A])).trans (d2.block b (H.2.2.2 b e) (nv b e)),(off ch (cW a1)).trans ((d2.block ch H.2.1 a4).trans P.chan)⟩,?_,?_,?_⟩,d3,yL⟩
  ·exact(off _ I.2.2.1).trans ((d2.block _ bK (fun e=>I.1 (by injection e))).trans az)
  ·exact(off _ I.2.2.2).trans ((d2.block _ aq (fun e=>I.2.1 (by injection e))).trans Pq)
  ·exact((aG.below T).trans (d2.mono fun b _ h=>.inr h)).set (p:=aa c 13) (.inl rfl) _
 have Z:=aL h;have Q:Hid (∀W,bz 206 #[.agg (aC r)] W (aj (cJ r.m))):=fun W=>Rx r W;have HZ:Hid (∀W,bz 201 #[.agg (ji r.m.wh r.m.nm r.m.kd r.m.fl r.m.ck r.m.of r.m.ln r.m.dt r.m.er)] W (aj (sizeOf' r.m))):=fun W=>EJ r.m W hr.lR hr.pG;have HE:Hid (k.bF r l={k with q:=l,tok:=k.tok-1,de:=k.de-cJ r.m,sv:=k.sv+cJ r.m,aZ:=k.aZ+1,prom:=k.prom+sizeOf' r.m}):=rfl;clear h G T az Pq e0 e1;generalize k.bF r l=kd at*;generalize cJ r.m=o at*;generalize sizeOf' r.m=U at*;generalize (r::l).length=L at*;go_enter func242,ntmps242
 go_upto_region 4 with(go_at_call 269;refine HD.out.mono ?_;rintro e J ⟨f,x,j,rfl,d1,d2,d3⟩;have H1:=aL d1;have bJ:=aE J c 13 (.slice (some (aa d 0)) L t) d3;have f13:=aS d3 13;have bO:=aE J c 17 (aj k.tok) d3;have f17:=aS d3 17;clear d1 d3)
 have M:Hid (jC w ((J.setCell (aa c 13) (.slice f x j)).setCell (aa c 17) (aj (k.tok-1))) c rb ch (.slice (some (aa d 0)) L t) (.slice f x j) v g {k with q:=l,tok:=k.tok-1} r w.heap.size (w.heap.size+1)):=H1.out.put 17 _ rfl rfl rfl rfl;clear bJ f13 bO f17 H1;generalize (J.setCell (aa c 13) (.slice f x j)).setCell (aa c 17) (aj (k.tok-1))=W2 at*;refine gW ?_;refine dh (S:=DsS c (w.heap.size+1) {k with q:=l,tok:=k.tok-1} r) 9 aI M.out.drew.s ?_;intro hS;refine gk 0 ?_;refine gk 1 ?_;refine gk 2 ?_;refine gs 3 ?_;refine gs 4 ?_;refine gr 5 fun K a=>?_;go_simp;go_at_call 206;refine(Q.out _).mono ?_;rintro e V ⟨rfl,PD⟩;have B:=M.out.drew.old PD;refine a.out _ _ B.s (fun aY=>?_);clear a K;refine gk 6 ?_;refine gk 7 ?_;refine gk 8 ?_;have bR:=aE V c 18 (aj k.de) B.p.box;have f18:=aS B.p.box 18;refine gz fun K a=>?_;go_simp;refine a.out _ _ ?_
 have N:Hid (jC w (V.setCell (aa c 18) (aj (gU.wrap (k.de-o)))) c rb ch (.slice (some (aa d 0)) L t) (.slice f x j) v g {k with q:=l,tok:=k.tok-1,de:=k.de-o} r w.heap.size (w.heap.size+1)):=by rw[pP ak ak];exact B.put 18 _ rfl rfl rfl rfl
 clear hS aY B bR f18 a K PD M;generalize V.setCell (aa c 18) (aj (gU.wrap (k.de-o)))=W4 at*;refine dJ aI ?_ _;refine gp ?_
 go_upto_region 5 with fail
 refine gW ?_;refine dh (S:=DsS c (w.heap.size+1) {k with q:=l,tok:=k.tok-1,de:=k.de-o} r) 9 aI N.out.drew.s ?_;intro hS;refine gk 0 ?_;refine gk 1 ?_;refine gk 2 ?_;refine gs 3 ?_;refine gs 4 ?_;refine gr 5 fun K a=>?_;go_simp;go_at_call 206;refine(Q.out _).mono ?_;rintro e X ⟨rfl,PF⟩;have C:=N.out.drew.old PF;refine a.out _ _ C.s (fun bf=>?_);clear a K;refine gk 6 ?_;refine gk 7 ?_;refine gk 8 ?_;have bS:=aE X c 19 (aj k.sv) C.p.box;have f19:=aS C.p.box 19;refine gz fun K a=>?_;go_simp;refine a.out _ _ ?_
 have F:Hid (jC w (X.setCell (aa c 19) (aj (gU.wrap (k.sv+o)))) c rb ch (.slice (some (aa d 0)) L t) (.slice f x j) v g {k with q:=l,tok:=k.tok-1,de:=k.de-o,sv:=k.sv+o} r w.heap.size (w.heap.size+1)):=by rw[pP ak ak];exact C.put 19 _ rfl rfl rfl rfl
 clear hS bf C bS f19 a K PF N;generalize X.setCell (aa c 19) (aj (gU.wrap (k.sv+o)))=R at*;refine dJ aI ?_ _;refine gp ?_;have bL:=aE R c 14 (aj k.aZ) F.out.p.box;have f14:=aS F.out.p.box 14
 go_upto_region 7 with fail
 have O:Hid (jC w (R.setCell (aa c 14) (aj (k.aZ+1))) c rb ch (.slice (some (aa d 0)) L t) (.slice f x j) v g {k with q:=l,tok:=k.tok-1,de:=k.de-o,sv:=k.sv+o,aZ:=k.aZ+1} r w.heap.size (w.heap.size+1)):=F.out.put 14 _ rfl rfl rfl rfl;clear bL f14 F;generalize R.setCell (aa c 14) (aj (k.aZ+1))=W7 at*;refine gW ?_;refine dh (S:=DsS c (w.heap.size+1) {k with q:=l,tok:=k.tok-1,de:=k.de-o,sv:=k.sv+o,aZ:=k.aZ+1} r) 10 aI O.out.drew.s ?_;intro hS;refine gk 0 ?_;refine gk 1 ?_;refine gk 2 ?_;refine gs 3 ?_;refine gk 4 ?_;refine gs 5 ?_;refine gr 6 fun K a=>?_;go_simp;go_at_call 201;refine(HZ.out _).mono ?_;rintro e Y ⟨rfl,aA⟩;have D:=O.out.drew.old aA;refine a.out _ _ D.s (fun bg=>?_);clear a K;refine gk 7 ?_;refine gk 8 ?_;refine gk 9 ?_;have bN:=aE Y c 15 (aj k.prom) D.p.box;have f15:=aS D.p.box 15;refine gz fun K a=>?_;go_simp;refine a.out _ _ ?_
 have n:Hid (jC w (Y.setCell (aa c 15) (aj (gU.wrap (k.prom+U)))) c rb ch (.slice (some (aa d 0)) L t) (.slice f x j) v g {k with q:=l,tok:=k.tok-1,de:=k.de-o,sv:=k.sv+o,aZ:=k.aZ+1,prom:=k.prom+U} r w.heap.size (w.heap.size+1)):=by rw[pP ak ak];exact D.put 15 _ rfl rfl rfl rfl
 clear hS bg D bN f15 a K aA O;generalize Y.setCell (aa c 15) (aj (gU.wrap (k.prom+U)))=u at*;refine dJ aI ?_ _;refine gp ?_;obtain⟨m0,m1,m2,m3,m4,m5,m6,m7,m8,m9⟩:=bQ.of n.out.b;have z0:=aE u w.heap.size 0 (aj 0) n.out.z;have z1:=aE u w.heap.size 1 (.string ⟨#[]⟩) n.out.z;have z2:=aE u w.heap.size 2 (aj 0) n.out.z;have z3:=aE u w.heap.size 3 (aj 0) n.out.z;have z4:=aE u w.heap.size 4 (aj 0) n.out.z;have z5:=aE u w.heap.size 5 (aj 0) n.out.z;have z6:=aE u w.heap.size 6 (aj 0) n.out.z;have z7:=aE u w.heap.size 7 (.string ⟨#[]⟩) n.out.z;have z8:=aE u w.heap.size 8 (aj 0) n.out.z;have z9:=aE u w.heap.size 9 (aj 0) n.out.z;have fz:∀i,u.frozen? (aa w.heap.size i)=false:=fun i=>aS n.out.z i
 have Vt:Hid (∀W',aG (fun b=>b=w.heap.size) u W'->∃E,bM W' c rb mb ch E v g kd/\aG (fun b=>b=c\/some b=(eF (some (aa d 0)) L t).ownBlock) w W'/\E.ownBlock=(eF (some (aa d 0)) L t).ownBlock):=fun W' hT=>by rw[HE.out];exact n.out.fin Z.out rfl rfl d2 hT
 clear n Z HE Q HZ;go_wp2;refine bodyPost_ret (v:=.agg (aC r)) (by simp[results,results242,go_sem,z0,z1,z2,z3,z4,z5,z6,z7,z8,z9]) rfl ⟨rfl,?_⟩;exact Vt.out _ (adO _ _ _ _ _ _ _ _ _ _ _ _)
end
end Go.Proofs.YtpobhljcainmdaaGreat
