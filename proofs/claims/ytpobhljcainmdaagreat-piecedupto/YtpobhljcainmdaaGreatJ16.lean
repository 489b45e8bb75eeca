/- For every list of raw numbers, texts and cuts of bulk at most 1048576, Pieced answers true and leaves them as they were: how bytes are cut up means nothing. -/
import Derived.ChangeOld
import Derived.ChangeSlices
import Derived.Deep.Slices
import Derived.OpenShut
import Derived.ProofKit
import Derived.Test.YtpobhljcainmdaaGreatJ15
set_option maxRecDepth 100000
set_option maxHeartbeats 8000000
set_option linter.all false
namespace Go.Proofs.YtpobhljcainmdaaGreat
open Go renaming maxLen->bT,Value->au,World->an,trodAll_cons_mk->MI,FuncId->bh,TypeId->aK,Addr->eV
open _root_.Classical renaming choose_spec->Uf,choose->Ue
open Go.World renaming cell?_of_block->fC,cell?_spot->Vi
open Go.DataW renaming trod_lt->LC
open Go.Value renaming cells->Aa
open Go.Result renaming ok->Mq
section
attribute [local go_sem ↓] Go.wp_at_zero Go.wp_at_succ
attribute [local go_sem] bq bg
open Go.Conc Go.RowKit
open Go.Proofs.Tryz
def wK:ByteArray:=⟨#[70,69,82,82,89,97,103]⟩
def Fx.uS(g:Cf):Fx:=(Fx.new g).vu 0 1
def Fx.begun(g:Cf):Fx:=(Fx.uS g).at 0 ((Ck.fresh 0 1 g.bu).send wK)
theorem OD{g}(hI:g.Is):(Fx.uS g).K[0]? =some (some (Ck.fresh 0 1 g.bu)):=by
 have:=hI.cl;have h:0<((Fx.new g).K).length:=by simp[Fx.new];omega
 exact pU h
theorem QS{g}(hI:g.Is):(Fx.new g).K[0]? =some none:=by have:=hI.cl;rw[show(Fx.new g).K=List.replicate g.cl.toNat none from rfl,BR,aM ak]
theorem OE{g}(hI:g.Is):(Fx.uS g).Rest:=(Fx.Rest.new hI).vu (QS hI) ak
theorem OF{g}:(Fx.uS g).send 0 (Ck.fresh 0 1 g.bu) wK=(Fx.begun g,0):=by unfold Fx.send;rw[aD (by simp[Ck.fresh]),aD (show ¬1024<(Ck.fresh 0 1 g.bu).aO.size+wK.size from(by decide:¬1024<(⟨#[]⟩:ByteArray).size+wK.size))];rfl
theorem Wh{g}(hI:g.Is):(Fx.begun g).Rest:=by have h:=(OE hI).send (OD hI) wK;rw[OF]at h;exact h
theorem l8:(prog.info? 49).map (fun i=>(i.zero,i.size,i.bytes))=some (some (.pointer none),1,8):=aI
theorem aeh(w:an)(x y:Array au){T U}:((w.alloc (.cells x T)).alloc (.cells y U)).heap[w.heap.size+1]? =some (.cells y U (0,0)):=by have:=heap_alloc_new (w.alloc (.cells x T)) (.cells y U);simpa using this
theorem aX.cr{w w' L L' cb xb g lv}(t:aX w L w' L')(h:lF w cb g xb lv)(a:L.own cb=0):lF w' cb g xb lv/\L'.own cb=0:=
 ⟨tM t.bS h fun x=>x a,(t.own cb (aP.1 h).1).trans a⟩
section
variable {w w2 w3:an} {cb xb:Nat} {g:Cf} {L L2:cQ} {a1 a2:Array au} {t1 t2:Nat} {lv:au}
theorem XS(hF:ay w2 (Fx.begun g) xb L2)(j:lF w2 cb g xb (.slice none 0 0))(o:L2.own cb=0)(f:aX w L w2 L2)(c:((w2.alloc (.cells a1 t1)).alloc (.cells a2 t2)).grownBy w3 none):
  lF w3 cb g xb (.slice none 0 0)/\(ay (w3.setCell (aa cb 10) lv) (Fx.begun g) xb {L2 with own:=fun b=>if b<w2.heap.size then L2.own b else 0}/\lF (w3.setCell (aa cb 10) lv) cb g xb lv/\(∀b,b<w.heap.size->(if b<w2.heap.size then L2.own b else 0)=L.own b)/\aG (fun b=>L.own b≠0\/b=cb) w (w3.setCell (aa cb 10) lv)/\∀b,(w3.setCell (aa cb 10) lv).heap.size<=b->(if b<w2.heap.size then L2.own b else 0)=0):=by
 have k:aB w2 ((w2.alloc (.cells a1 t1)).alloc (.cells a2 t2)):=((Below.refl _ w2).alloc (aV _) _).alloc aq _;have p:=c.size;have d:∀b,b<w2.heap.size->w3.heap[b]? =w2.heap[b]? :=fun b a=>(c.block b bK aq).trans (k.block b a);have m:w2.heap.size<=w3.heap.size:=by grind
 have i:lF w3 cb g xb (.slice none 0 0):=(d cb ((aP.1 j).1)).trans j;refine⟨i,?_,bV i 10 lv,fun b a=>?_,?_,fun b a=>aD ?_⟩
 ·refine(hF.owns _ fun b a=>aM a).sZ fun b a n=>?_;have l:b≠cb:=fun e=>by grind
  exact(bH l).trans (d b a)
 ·have:=f.bS.size;rw[aM ak];exact f.own b a
 ·have t3:aG (fun b=>L.own b≠0\/b=cb) w2 w3:=⟨c.os.trans k.os,m,fun b a _=>d b a⟩;exact((f.bS.mono fun b _ h=>.inl h).trans t3).set (.inr rfl) lv
 ·simp at a;omega
end
theorem XT(cb xb:Nat)(g:Cf)(L:cQ)(w:an)(hI:g.Is)(q:lF w cb g xb (.slice none 0 0))(hF:ay w (Fx.new g) xb L)(y:L.own cb=0):
  Calls prog 31 #[jp cb,aj 0] w fun e h=>e=.returned (.bool true)/\∃j lv,ay h (Fx.begun g) xb j/\lF h cb g xb lv/\(∀b,b<w.heap.size->j.own b=L.own b)/\aG (fun b=>L.own b≠0\/b=cb) w h/\(∀b,h.heap.size<=b->j.own b=0):=by
 obtain⟨O,F,J,M,N⟩:=info_parts l8;have R:¬(0:Int)≥g.cl:=by have:=hI.cl;omega
 have S:¬g.cl<=0:=by have:=hI.cl;omega
 have Q:=aE w cb 9 (jp xb) q;have G:(Fx.new g).K.length<=65535:=by have:=hI.cl;simp[Fx.new];omega
 have H:(Fx.uS g).K.length<=65535:=by have:=hI.cl;simp[Fx.uS,Fx.vu,Fx.new];omega
 have v:=YP w (Fx.new g) xb L hF G rfl 1 cq 0 (QS hI) (fun i T=>by omega) (by simp[Fx.new]);have t:Hid (lF w cb g xb (.slice none 0 0)/\L.own cb=0/\g.Is):=⟨q,y,hI⟩;have A:=aL v
 have B:Hid (∀a c,ay a (Fx.uS g) xb c->Calls prog 37 #[jp xb,aj 0,.string wK] a fun e h=>e=.returned (aj 0)/\∃j,ay h (Fx.begun g) xb j/\aX a c h j):=fun a c D=>by have u:=OZ a _ xb c D H 0 wK 0 _ ((OE hI).core.is (OD hI)) (show(⟨#[]⟩:ByteArray).size<=1024 from by decide);rw[OF]at u;exact u
 clear v q y hF;have z:True:=trivial;go_enter func31,ntmps31
 go_wp2_with (first
  |(go_at_call 21;refine(S7 4 _ cq).mono ?_;rintro e r ⟨rfl,h0⟩;subst r)
  |(go_at_call 36;go_loud (refine A.out.mono ?_;rintro e a ⟨rfl,c,n,f⟩;have m:=f.cr t.out.1 t.out.2.1;have d9:=aE a cb 9 (jp xb) m.1;have d10:=aE a cb 10 (.slice none 0 0) m.1;have d1:=aE a cb 1 (aj g.cl) m.1;have k:Hid (ay a (Fx.uS g) xb c/\aX w L a c/\lF a cb g xb (.slice none 0 0)/\c.own cb=0):=⟨n,f,m⟩;clear n f m))
  |(go_at_call 67;refine(D6 cb xb g _ k.out.2.2.1).mono ?_;rintro e r ⟨rfl,h0⟩;subst r)
  |(go_at_call 37;refine(B.out a c k.out.1).mono ?_;rintro e w2 ⟨rfl,L2,n,f⟩;have d:=f.cr k.out.2.2.1 k.out.2.2.2;have f9:=aE w2 cb 10 (.slice none 0 0) d.1;have f1:=aE w2 cb 1 (aj g.cl) d.1;have V:¬cb=w2.heap.size:=(by have:=(aP.1 d.1).1;omega);have W:¬cb=w2.heap.size+1:=(by have:=(aP.1 d.1).1;omega);have X:cb<w2.heap.size:=(aP.1 d.1).1;have o:Hid (ay w2 (Fx.begun g) xb L2/\aX w L w2 L2/\lF w2 cb g xb (.slice none 0 0)/\L2.own cb=0):=⟨n,k.out.2.1.trans f,d⟩;clear n f d)
  |(at_builtin;have _t:=z;refine wpList_append_lies _ (by rfl) _ _ 37 (by rfl) 0 49 O _ 1 8 underlying37 F J M N (by rfl) ak (.slice none 0 0) 0 [] (by rfl) (World.ownsRow_nil _ _ _ _) ⟨w2.heap.size+1,0,none⟩ 1 1 [jp w2.heap.size] (by rfl) (by rfl) (World.news_of_block (aeh w2 _ _)) (by simp[Value.oneCell']) ak (by unfold bT;omega) ak aq (w2.heap.size+2) aq ?_;intro g0 C w3 I x E U;clear z;obtain⟨p,s⟩:=XS (lv:=.slice (some (aa g0 0)) 1 C) o.out.1 o.out.2.2.1 o.out.2.2.2 o.out.2.1 x;have P:=aE w3 cb 10 (.slice none 0 0) p;have f3:=aS p 10;have l:=aL s;clear p s I x E))
 go_ret;exact⟨rfl,_,_,l.out.1,l.out.2.1,l.out.2.2.1,l.out.2.2.2.1,l.out.2.2.2.2⟩
end
section
attribute [local go_sem ↓] Go.wp_at_zero Go.wp_at_succ
attribute [local go_sem] bq bg Ib Ic xw
open Go.Conc Go.RowKit
open Go.Proofs.Tryz
structure CC[aA](l:List bh):Prop where
 fit:Fit prog l
 kR:aA.known 29
 kP:aA.known 21
 kC:aA.known 28
theorem aac[aA](x):results f29 x=results f29 (oo (fH 29) x):=by have h:(oo (fH 29) x).getD 4 undef=x.getD 4 undef:=Bs (L:=fH 29) (a:=⟨x,[]⟩) (i:=4) cq;simp only[results,results29,Gi,vP,BU,h]
theorem aab[aA](x):results f21 x=results f21 (oo (fH 21) x):=by have h:(oo (fH 21) x).getD 4 undef=x.getD 4 undef:=Bs (L:=fH 21) (a:=⟨x,[]⟩) (i:=4) cq;simp only[results,results21,Gi,vP,BU,h]
theorem aaa[aA](x):results f28 x=results f28 (oo (fH 28) x):=by have h:(oo (fH 28) x).getD 2 undef=x.getD 2 undef:=Bs (L:=fH 28) (a:=⟨x,[]⟩) (i:=2) cq;simp only[results,results28,Gi,vP,BU,h]
section
variable [aA] {u:an} {l:List bh} {dn:Nat}
theorem V6(ad len cap j ρ i v)(h:(Frame.enter prog 29 #[.slice ad len cap,aj j] .normal).tmps[i]? =some v)(b:i∉fH 29):VR ρ v v:=
 Dx func29 (body:=oZ f29) aI (fun i v h b ρ=>by
  match i,b with
  |0,b=>exact absurd cq b
  |1,_=>simp at h;subst h;constructor
  |n+2,_=>simp at h) ρ i v h b
theorem S5(c n ρ i v)(h:(Frame.enter prog 21 #[aj c,aj n] .normal).tmps[i]? =some v)(b:i∉fH 21):VR ρ v v:=
 Dx func21 (body:=oZ f21) aI (fun i v h b ρ=>by
  match i with
  |0=>simp at h;subst h;constructor
  |1=>simp at h;subst h;constructor
  |n+2=>simp at h) ρ i v h b
theorem Xb(ad len cap ρ i v)(h:(Frame.enter prog 28 #[.slice ad len cap] .normal).tmps[i]? =some v)(b:i∉fH 28):VR ρ v v:=
 Dx func28 (body:=oZ f28) aI (fun i v h b ρ=>by
  match i,b with
  |0,b=>exact absurd cq b
  |n+1,_=>simp at h) ρ i v h b
variable {Q:Exit->Act->an->Prop} {a:Act} {ops:Array Oper} {i n d:Nat} {rest:List Nat} {f0:bh} {L:List (Nat×au)} {ty:aK} {ps:String} {af:Array Edge} {gd:Option (Nat×Bool)} {ats:Array aK} {x y:Operand} {ad:Option eV} {len cap:Nat} {j c:Int}
theorem FE.raw(G:CC l)(g:len<=bT)(h:sR ad len)(E:Fa n a L)(k:∀z b,oV z->jV a b d (aj z)->Fa n b ((d,aj z)::L)->FO fH f0 dn prog ops Q rest b u)(m:ops[i]? =some ⟨some d,.call ⟨.value (.func 29),#[x,y],ats⟩,ty,ps,af,gd⟩:=by rfl) (hv:uL L [x,y]=some [.slice ad len cap,aj j]:=by rfl) (f:0<=j/\j<=9223372036854775807:=by omega) (o:(kH ops L gd&&lf ops n gd)=true:=by rfl) (hc:ru [] n d []=true:=by rfl):FO fH f0 dn prog ops Q (i::rest) a u:=by refine FE.cf (xs:=[x,y]) E func29 G.kR aac (V6 ad len cap j) ((V7 G.fit ad len cap j g f.1 f.2 h).mono ?_) m o (hc:=hc) (hv:=hv);rintro e q ⟨z,rfl,p,h0⟩;subst q;exact⟨_,rfl,fun b N E=>k z b p N E⟩
theorem FE.rJ{m}(G:CC l)(h:oV c)(E:Fa n a L)(k:∀r b,(0<=r/\r<m)->jV a b d (aj r)->Fa n b ((d,aj r)::L)->FO fH f0 dn prog ops Q rest b u)(f:ops[i]? =some ⟨some d,.call ⟨.value (.func 21),#[x,y],ats⟩,ty,ps,af,gd⟩:=by rfl) (hv:uL L [x,y]=some [aj c,aj m]:=by rfl) (hm:0<m/\m<=9223372036854775807:=by omega) (g:(kH ops L gd&&lf ops n gd)=true:=by rfl) (hc:ru [] n d []=true:=by rfl):FO fH f0 dn prog ops Q (i::rest) a u:=by refine FE.cf (xs:=[x,y]) E func21 G.kP aab (S5 c m) ((S6 G.fit c m h hm.1 hm.2).mono ?_) f g (hc:=hc) (hv:=hv);rintro e o ⟨r,rfl,hr,h0⟩;subst o;exact⟨_,rfl,fun b N E=>k r b hr N E⟩
theorem FE.lcf{g b k}(o:Fit prog l)(E:Fa n a L)(B:u.heap[b]? =some (.cells (gO g) 35 (0,0)))(c:∀m,jV a m d (.agg (gO g))->Fa n m ((d,.agg (gO g))::L)->FO fH f0 dn prog ops Q rest m u)(f:ops[i]? =some ⟨some d,.load 35 (.tmp k),ty,ps,af,gd⟩:=by rfl) (p:lk L k=some (pt b):=by rfl) (q:(kH ops L gd&&lf ops n gd)=true:=by rfl) (hc:qo (fH f0) n d L (.load 35 (.tmp k))=true:=by rfl):FO fH f0 dn prog ops Q (i::rest) a u:=by
 refine FE.ow E c f q rfl hc (fun h=>?_) o;have e:iL L (.tmp k)=pt b:=by show(lk L k).getD undef=_;rw[p];rfl
 have f:(u.tp h).heap[b]? =_:=B;have r:=aE (u.tp h) b 0 (aj g.sz) f;have s:=aE (u.tp h) b 1 (aj g.cl) f;have t:=aE (u.tp h) b 2 (aj g.qu) f;have v:=aE (u.tp h) b 3 (aj g.mx) f;have w:=aE (u.tp h) b 4 (aj g.qn) f;have z:=aE (u.tp h) b 5 (aj g.rt) f;have A:=aE (u.tp h) b 6 (aj g.bu) f;have C:=aE (u.tp h) b 7 (aj g.wk) f;have D:=aE (u.tp h) b 8 (aj g.ou) f;clear f B E c;unfold execOp;simp only[e];go_simp
theorem Xc(G:CC l)(ad len cap)(I:len<=bT)(h:sR ad len):
  jB fH prog dn 28 #[.slice ad len cap] u fun e u'=>∃g:Cf,e=.returned (.agg (gO g))/\pg g.sz g.cl g.qu g.mx g.qn g.rt g.bu g.wk g.ou=true:=by
 have hT:=G.fit;refine jB.Et 60 func28 fun a E=>?_;refine FX.sq (FX.reg [0] ?_);refine FE.nw (v:=pt u.heap.size) E (u.alloc (.cells (fc 0 0 0 0 0 0 0 0 0) 35)) (hr:=fun A=>by go_simp;rfl) fun a _ E=>FO.nil ?_;obtain⟨f,V⟩:∃b,b=u.heap.size:=⟨_,rfl⟩;rw[<-V]at E;have o:(u.alloc (.cells (fc 0 0 0 0 0 0 0 0 0) 35)).heap[f]? =some (.cells (fc 0 0 0 0 0 0 0 0 0) 35 (0,0)):=new1 V;generalize u.alloc (.cells (fc 0 0 0 0 0 0 0 0 0) 35)=F at*;clear V;refine FX.sq (FX.reg [0,1,2,3,4,5,6,7,8,9,10,11,12,13,14,15,16,17,18,19,20] ?_);refine FE.bl E fun a _ E=>?_;refine FE.raw G I h E fun z0 a qy _ E=>?_;refine FE.rJ G qy E fun J a uZ _ E=>?_;refine FE.ar E fun a _ E=>?_;refine FE.ar E fun a _ E=>?_;refine FE.bl E fun a _ E=>?_;refine FE.raw G I h E fun z1 a aG _ E=>?_;refine FE.rJ G aG E fun K a aY _ E=>?_;refine FE.ar E fun a _ E=>?_;refine FE.bl E fun a _ E=>?_;refine FE.raw G I h E fun z2 a qz _ E=>?_;refine FE.rJ G qz E fun M a aZ _ E=>?_;refine FE.ar E fun a _ E=>?_;refine FE.bl E fun a _ E=>?_;refine FE.raw G I h E fun z3 a aH _ E=>?_;refine FE.rJ G aH E fun m a bf _ E=>?_;refine FE.ar E fun a _ E=>?_;refine FE.ar E fun a _ E=>?_;refine FE.ow (v:=.agg (fc (4*(1+J)) (1+K) (1+M) (4*(1+m)) 0 0 0 0 0)) E fun a _ E=>?_;refine FE.nw (v:=pt F.heap.size) E (F.alloc (.cells (fc 0 0 0 0 0 0 0 0 0) 35)) (hr:=fun A=>by go_simp;rfl) fun a _ E=>?_;obtain⟨B,S⟩:∃b,b=F.heap.size:=⟨_,rfl⟩;rw[<-S]at E;refine FE.vo E (F.alloc (.cells (fc (4*(1+J)) (1+K) (1+M) (4*(1+m)) 0 0 0 0 0) 35)) (FO.nil ?_) (hr:=fun A=>?_)
 rotate_left
 ·show _=Mq _ ((F.tp A).alloc (.cells (fc (4*(1+J)) (1+K) (1+M) (4*(1+m)) 0 0 0 0 0) 35));have S:B=(F.tp A).heap.size:=S;show(execOp _ _).run _ ((F.tp A).alloc (.cells (fc 0 0 0 0 0 0 0 0 0) 35))=_;generalize F.tp A=x at*;subst S;go_simp
 have w:(F.alloc (.cells (fc (4*(1+J)) (1+K) (1+M) (4*(1+m)) 0 0 0 0 0) 35)).heap[B]? =some (.cells (fc (4*(1+J)) (1+K) (1+M) (4*(1+m)) 0 0 0 0 0) 35 (0,0)):=new1 S;have T:f≠B:=fun e=>by have:=(aP.1 o).1;omega
 replace o:(F.alloc (.cells (fc (4*(1+J)) (1+K) (1+M) (4*(1+m)) 0 0 0 0 0) 35)).heap[f]? =some (.cells (fc 0 0 0 0 0 0 0 0 0) 35 (0,0)):=fI o
 generalize F.alloc (.cells (fc (4*(1+J)) (1+K) (1+M) (4*(1+m)) 0 0 0 0 0) 35)=u2 at*;clear S
 replace E:Fa 60 a [(0,.slice ad len cap),(2,pt f),(3,pt B)]:=E.to
 refine FX.sq (FX.dr 11 10 (fun i v=>match i with|0=>v=.pointer (some (aa B 3))|1=>v=aj (4*(1+m))|2=>v=.slice ad len cap|3=>∃z,v=aj z/\oV z|4=>v=.pointer (some (aa B 3))|5=>v=aj (4*(1+m))|6=>v=aj (65-(4*(1+m)))|7=>∃r,v=aj r/\(0<=r/\r<65-(4*(1+m)))|8=>∃r,v=aj ((4*(1+m))+r)/\(0<=r/\r<65-(4*(1+m)))|9=>v=.pointer (some (aa B 4))|_=>True) E (fun Y P i X a is E t p=>?_) fun Y P a E hv=>?_)
 ·subst P
  match i,X with
  |0,_=>exact FE.ow E fun k N _=>p k _ rfl N
  |1,_=>exact FE.lc (E.add (d:=23) (t 0 rfl)) w fun k N _=>p k _ rfl N
  |2,_=>exact FE.bl E fun k N _=>p k _ rfl N
  |3,_=>exact FE.raw G I h (E.add (d:=25) (t 2 rfl)) fun z k R N _=>p k _ ⟨z,rfl,R⟩ N
  |4,_=>exact FE.ow E fun k N _=>p k _ rfl N
  |5,_=>exact FE.lc (E.add (d:=27) (t 4 rfl)) w fun k N _=>p k _ rfl N
  |6,_=>exact FE.ar (E.add (d:=28) (t 5 rfl)) fun k N _=>p k _ rfl N
  |7,_=>obtain⟨z,D,R⟩:∃z,a.eval (.tmp 26)=aj z/\oV z:=t 3 rfl;exact FE.rJ G R (((E.add (d:=29) (t 6 rfl))).add (d:=26) D) fun r k hr N _=>p k _ ⟨r,rfl,hr⟩ N
  |8,_=>obtain⟨r,D,hr⟩:∃r,a.eval (.tmp 30)=aj r/\(0<=r/\r<65-(4*(1+m))):=t 7 rfl;exact FE.ar (((E.add (d:=24) (t 1 rfl))).add (d:=30) D) fun k N _=>p k _ ⟨r,rfl,hr⟩ N
  |9,_=>exact FE.ow E fun k N _=>p k _ rfl N
  |q+10,hm=>omega
 obtain⟨r4,D,bg⟩:∃r,a.eval (.tmp 31)=aj ((4*(1+m))+r)/\(0<=r/\r<65-(4*(1+m))):=hv 8 rfl
 replace E:=(E.add (d:=32) (hv 9 rfl)).add (d:=31) D
 clear hv;subst P;refine gA.one (j:=10) aI fun is U=>?_;refine FE.st E w fun u4 w O=>U _ _ (gA.none aI ?_)
 replace o:=(O f T).trans o
 replace E:Fa 60 a [(0,.slice ad len cap),(2,pt f),(3,pt B)]:=E.to
 refine FX.sq (FX.reg [0,1,2,3,4,5] ?_);refine FE.bl E fun a _ E=>?_;refine FE.raw G I h E fun z5 a aL _ E=>?_;refine FE.rJ G aL E fun r5 a bk _ E=>?_;refine FE.ar E fun a _ E=>?_;refine FE.ow E fun a _ E=>?_;refine FE.st E w fun u5 w O=>FO.nil ?_
 replace o:=(O f T).trans o
 replace E:Fa 60 a [(0,.slice ad len cap),(2,pt f),(3,pt B)]:=E.to
 refine FX.sq (FX.reg [0,1,2,3,4,5] ?_);refine FE.bl E fun a _ E=>?_;refine FE.raw G I h E fun z6 a aO _ E=>?_;refine FE.rJ G aO E fun r6 a bn _ E=>?_;refine FE.ar E fun a _ E=>?_;refine FE.ow E fun a _ E=>?_;refine FE.st E w fun u6 w O=>FO.nil ?_
 replace o:=(O f T).trans o
 replace E:Fa 60 a [(0,.slice ad len cap),(2,pt f),(3,pt B)]:=E.to
 refine FX.sq (FX.reg [0,1,2,3,4,5] ?_);refine FE.bl E fun a _ E=>?_;refine FE.raw G I h E fun z7 a aQ _ E=>?_;refine FE.rJ G aQ E fun r7 a bp _ E=>?_;refine FE.ar E fun a _ E=>?_;refine FE.ow E fun a _ E=>?_;refine FE.st E w fun u7 w O=>FO.nil ?_
 replace o:=(O f T).trans o
 replace E:Fa 60 a [(0,.slice ad len cap),(2,pt f),(3,pt B)]:=E.to
 refine FX.sq (FX.dr 12 11 (fun i v=>match i with|0=>v=.pointer (some (aa B 3))|1=>v=aj (4*(1+m))|2=>v=aj ((4*(1+m))+4)|3=>v=.slice ad len cap|4=>∃z,v=aj z/\oV z|5=>v=.pointer (some (aa B 3))|6=>v=aj (4*(1+m))|7=>v=aj (253-(4*(1+m)))|8=>∃r,v=aj r/\(0<=r/\r<253-(4*(1+m)))|9=>∃r,v=aj ((4*(1+m))+4+r)/\(0<=r/\r<253-(4*(1+m)))|10=>v=.pointer (some (aa B 8))|_=>True) E (fun Y P i X a is E t p=>?_) fun Y P a E hv=>?_)
 ·subst P
  match i,X with
  |0,_=>exact FE.ow E fun k N _=>p k _ rfl N
  |1,_=>exact FE.lc (E.add (d:=48) (t 0 rfl)) w fun k N _=>p k _ rfl N
  |2,_=>exact FE.ar (E.add (d:=49) (t 1 rfl)) fun k N _=>p k _ rfl N
  |3,_=>exact FE.bl E fun k N _=>p k _ rfl N
  |4,_=>exact FE.raw G I h (E.add (d:=51) (t 3 rfl)) fun z k R N _=>p k _ ⟨z,rfl,R⟩ N
  |5,_=>exact FE.ow E fun k N _=>p k _ rfl N
  |6,_=>exact FE.lc (E.add (d:=53) (t 5 rfl)) w fun k N _=>p k _ rfl N
  |7,_=>exact FE.ar (E.add (d:=54) (t 6 rfl)) fun k N _=>p k _ rfl N
  |8,_=>obtain⟨z,D,R⟩:∃z,a.eval (.tmp 52)=aj z/\oV z:=t 4 rfl;exact FE.rJ G R (((E.add (d:=55) (t 7 rfl))).add (d:=52) D) fun r k hr N _=>p k _ ⟨r,rfl,hr⟩ N
  |9,_=>obtain⟨r,D,hr⟩:∃r,a.eval (.tmp 56)=aj r/\(0<=r/\r<253-(4*(1+m))):=t 8 rfl;exact FE.ar (((E.add (d:=50) (t 2 rfl))).add (d:=56) D) fun k N _=>p k _ ⟨r,rfl,hr⟩ N
  |10,_=>exact FE.ow E fun k N _=>p k _ rfl N
  |q+11,hm=>omega
 obtain⟨r8,D,bq⟩:∃r,a.eval (.tmp 57)=aj ((4*(1+m))+4+r)/\(0<=r/\r<253-(4*(1+m))):=hv 9 rfl
 replace E:=(E.add (d:=58) (hv 10 rfl)).add (d:=57) D
 clear hv;subst P;refine gA.one (j:=11) aI fun is U=>?_;refine FE.st E w fun C w O=>U _ _ (gA.none aI ?_)
 replace o:=(O f T).trans o
 replace E:Fa 60 a [(0,.slice ad len cap),(2,pt f),(3,pt B)]:=E.to
 obtain⟨g,W⟩:∃g:Cf,g=⟨(4*(1+J)),(1+K),(1+M),(4*(1+m)),((4*(1+m))+r4),(1+r5),(1+r6),(1+r7),((4*(1+m))+4+r8)⟩:=⟨_,rfl⟩
 replace w:C.heap[B]? =some (.cells (gO g) 35 (0,0)):=by rw[W];exact w
 have aF:pg g.sz g.cl g.qu g.mx g.qn g.rt g.bu g.wk g.ou=true:=by subst W;simp[pg,sV,wC,rN,iD];omega
 clear W;refine FX.sq (FX.reg [0,1] ?_);refine FE.lcf hT E w fun a _ E=>?_;refine FE.vo E (((((((((C.setCell (aa f 0) (aj g.sz)).setCell (aa f 1) (aj g.cl)).setCell (aa f 2) (aj g.qu)).setCell (aa f 3) (aj g.mx)).setCell (aa f 4) (aj g.qn)).setCell (aa f 5) (aj g.rt)).setCell (aa f 6) (aj g.bu)).setCell (aa f 7) (aj g.wk)).setCell (aa f 8) (aj g.ou)) (FO.nil ?_) (hr:=fun A=>?_)
 rotate_left
 ·have s:(C.tp A).heap[f]? =_:=o;have Z:=aE (C.tp A) f 0 (aj 0) s;have c1:=aE (C.tp A) f 1 (aj 0) s;have c2:=aE (C.tp A) f 2 (aj 0) s;have c3:=aE (C.tp A) f 3 (aj 0) s;have c4:=aE (C.tp A) f 4 (aj 0) s;have c5:=aE (C.tp A) f 5 (aj 0) s;have c6:=aE (C.tp A) f 6 (aj 0) s;have c7:=aE (C.tp A) f 7 (aj 0) s;have c8:=aE (C.tp A) f 8 (aj 0) s;have f0:=aS s 0;have f1:=aS s 1;have f2:=aS s 2;have f3:=aS s 3;have f4:=aS s 4;have f5:=aS s 5;have f6:=aS s 6;have f7:=aS s 7;have f8:=aS s 8;clear s;go_simp;simp only[Se]
 replace o:=(bV (bV (bV (bV (bV (bV (bV (bV (bV o 0 (aj g.sz)) 1 (aj g.cl)) 2 (aj g.qu)) 3 (aj g.mx)) 4 (aj g.qn)) 5 (aj g.rt)) 6 (aj g.bu)) 7 (aj g.wk)) 8 (aj g.ou))
 generalize (((((((((C.setCell (aa f 0) (aj g.sz)).setCell (aa f 1) (aj g.cl)).setCell (aa f 2) (aj g.qu)).setCell (aa f 3) (aj g.mx)).setCell (aa f 4) (aj g.qn)).setCell (aa f 5) (aj g.rt)).setCell (aa f 6) (aj g.bu)).setCell (aa f 7) (aj g.wk)).setCell (aa f 8) (aj g.ou))=H at*
 replace o:H.heap[f]? =some (.cells (gO g) 35 (0,0)):=o
 refine FX.rt ⟨rfl,E.defers,.agg (gO g),?_,g,rfl,aF⟩;have h2:=ev (E.at_ 2 _ rfl);have Z:=aE H f 0 (aj g.sz) o;have c1:=aE H f 1 (aj g.cl) o;have c2:=aE H f 2 (aj g.qu) o;have c3:=aE H f 3 (aj g.mx) o;have c4:=aE H f 4 (aj g.qn) o;have c5:=aE H f 5 (aj g.rt) o;have c6:=aE H f 6 (aj g.bu) o;have c7:=aE H f 7 (aj g.wk) o;have c8:=aE H f 8 (aj g.ou) o;clear o;simp[results,results28,h2];go_simp
end
end
section
open Go.Conc Go.RowKit
open Go.ConcR (Payload)
open Go.Proofs.Tryz
structure oX(u:an)(g:Cf)(kc ca cb xa xb:Nat)(fa fb:Fx)(La Lb:cQ)(va vb:au):Prop where
 cfg:u.heap[kc]? =some (.cells (gO g) 35 (0,0))
 mX:lF u ca g xa va
 uO:lF u cb g xb vb
 A:ay u fa xa La
 B:ay u fb xb Lb
 oA:La.own kc=0/\La.own ca=0/\La.own cb=0
 oB:Lb.own kc=0/\Lb.own ca=0/\Lb.own cb=0
 gP:∀b,La.own b=0\/Lb.own b=0
 nA:∀b,u.heap.size<=b->La.own b=0
 nB:∀b,u.heap.size<=b->Lb.own b=0
 ne:ca≠cb
def Twin(u:an)(g:Cf)(kc ca cb xa xb:Nat)(fa fb:Fx):Prop:=∃La Lb va vb,oX u g kc ca cb xa xb fa fb La Lb va vb
section
variable {u u':an} {g:Cf} {kc ca cb xa xb:Nat} {fa fb sX:Fx} {La Lb La':cQ} {va vb:au}
theorem oX.swap(T:oX u g kc ca cb xa xb fa fb La Lb va vb):oX u g kc cb ca xb xa fb fa Lb La vb va:=
 ⟨T.cfg,T.uO,T.mX,T.B,T.A,⟨T.oB.1,T.oB.2.2,T.oB.2.1⟩,⟨T.oA.1,T.oA.2.2,T.oA.2.1⟩,fun b=>(T.gP b).symm,T.nB,T.nA,T.ne.symm⟩
theorem Twin.swap(T:Twin u g kc ca cb xa xb fa fb):Twin u g kc cb ca xb xa fb fa:=by obtain⟨La,Lb,va,vb,T⟩:=T;exact⟨Lb,La,vb,va,T.swap⟩
theorem Twin.tp(T:Twin u g kc ca cb xa xb fa fb)(a:Tape):Twin (u.tp a) g kc ca cb xa xb fa fb:=by obtain⟨La,Lb,va,vb,T⟩:=T;exact⟨La,Lb,va,vb,T.cfg,T.mX,T.uO,T.A.tp a,T.B.tp a,T.oA,T.oB,T.gP,T.nA,T.nB,T.ne⟩
theorem oX.go(T:oX u g kc ca cb xa xb fa fb La Lb va vb)(h:ay u' sX xa La')(t:aX u La u' La'):Twin u' g kc ca cb xa xb sX fb:=by
 obtain⟨c,d,t2,e⟩:=h.norm t;have lt:∀{b:Nat} {o:Obj},u.heap[b]? =some o->b<u.heap.size:=fun h=>(aP.1 h).1;have keep:∀{b:Nat} {o:Obj},u.heap[b]? =some o->La.own b=0->u'.heap[b]? =some o:=fun h h0=>tM t.bS h fun x=>x h0;refine⟨c,Lb,va,vb,keep T.cfg T.oA.1,keep T.mX T.oA.2.1,keep T.uO T.oA.2.2,d,T.B.sZ fun b a h0=>?_,⟨?_,?_,?_⟩,T.oB,fun b=>?_,e,fun b a=>T.nB b (cS t.bS.size a),T.ne⟩
 ·exact t.bS.block b a fun x=>x ((T.gP b).resolve_right h0)
 ·exact(t2.own _ (lt T.cfg)).trans T.oA.1
 ·exact(t2.own _ (lt T.mX)).trans T.oA.2.1
 ·exact(t2.own _ (lt T.uO)).trans T.oA.2.2
 ·by_cases a:b<u.heap.size
  ·rw[t2.own b a];exact T.gP b
  ·exact .inr (T.nB b ak)
theorem aX.JF{w w' L}(h:aB w w'):aX w L w' L:=⟨fun _ _=>rfl,aG.below h⟩
theorem Twin.alloc(T:Twin u g kc ca cb xa xb fa fb)(o):Twin (u.alloc o) g kc ca cb xa xb fa fb:=by obtain⟨La,Lb,va,vb,T⟩:=T;have h:=(Below.refl _ u).alloc (aV _) o;exact T.go (T.A.below h) (.JF h)
def Sends(f:Fx)(t:ByteArray)(f':Fx)(n:Int):Prop:=(f.nobody 0/\f'=f/\n=2)\/∃s k,f.Is 0 s k/\f.send s k t=(f',n)
def CQ(f:Fx)(f':Fx)(x:ByteArray)(n:Int):Prop:=(f.nobody 0/\f'=f/\x=⟨#[]⟩/\n=2)\/∃s k,f.Is 0 s k/\f'=f.take s k 1099511627776/\x=k.tg 1099511627776/\n=0
def CN(f:Fx)(v:Array au)(n:Int):Prop:=(f.nobody 0/\v=stC/\n=2)\/∃s k,f.Is 0 s k/\v=stG k/\n=0
theorem Fx.Core.who(h:fa.Core):fa.nobody 0\/∃s k,fa.Is 0 s k:=by
 by_cases c:∃(s:Nat) (k:Ck),fa.K[s]? =some (some k)/\k.no=0
 ·obtain⟨s,k,a,b⟩:=c;exact .inr ⟨s,k,b▸h.is a⟩
 ·exact .inl fun s k a b=>c ⟨s,k,a,b⟩
theorem Sends.rest{t n}(hR:fa.Rest)(h:Sends fa t sX n):sX.Rest/\sX.clock=fa.clock:=by
 rcases h with⟨_,rfl,_⟩|⟨s,k,d,a⟩
 ·exact⟨hR,rfl⟩
 ·have b:=hR.send d.at_ t;rw[a]at b;refine⟨b,?_⟩
  have c:(fa.send s k t).1.clock=fa.clock:=by
   unfold Fx.send;split
   ·rfl
   ·split<;>rfl
  rw[a]at c;exact c
theorem aaZ(hR:fa.Rest)(t):∃a n,Sends fa t a n:=by
 rcases hR.core.who with h|⟨s,k,h⟩
 ·exact⟨fa,2,.inl ⟨h,rfl,rfl⟩⟩
 ·exact⟨_,_,.inr ⟨s,k,h,rfl⟩⟩
theorem adN(hR:fa.Rest):∃a x n,CQ fa a x n/\a.Rest/\a.clock=fa.clock:=by
 rcases hR.core.who with h|⟨s,k,h⟩
 ·exact⟨fa,_,_,.inl ⟨h,rfl,rfl,rfl⟩,hR,rfl⟩
 ·refine⟨_,_,_,.inr ⟨s,k,h,rfl,rfl,rfl⟩,(hR.take h.at_ _).2,?_⟩;exact((hR.take h.at_ 1099511627776).1.core.cO fa.K.length).2.1
theorem D9(hR:fa.Rest):∃v n,CN fa v n:=by
 rcases hR.core.who with h|⟨s,k,h⟩
 ·exact⟨_,_,.inl ⟨h,rfl,rfl⟩⟩
 ·exact⟨_,_,.inr ⟨s,k,h,rfl,rfl⟩⟩
theorem CN.form{v n}(h:CN fa v n):∃a b c d e f i j:Int,v=#[aj a,aj b,aj c,aj d,aj e,aj f,aj i,aj j]:=by
 rcases h with⟨_,rfl,_⟩|⟨s,k,_,rfl,_⟩
 ·exact⟨_,_,_,_,_,_,_,_,rfl⟩
 ·exact⟨_,_,_,_,_,_,_,_,rfl⟩
theorem Fx.Rest.fM(h:fa.Rest):fa.K.length<=65535:=by have a:=h.core.len;have b:=h.core.g.cl;omega
variable [aA] {l:List bh}
theorem Tn(i:Fit prog l)(j:aA.ok 37)(T:Twin u g kc ca cb xa xb fa fb)(hR:fa.Rest){t n}(hS:Sends fa t sX n):
  eI prog 37 #[pt xa,aj 0,.string t] u fun e u'=>e=.returned (aj n)/\Twin u' g kc ca cb xa xb sX fb:=by
 refine eI.lift i j (fun e u c h=>⟨h.1,h.2.tp c⟩) (fun e u h=>⟨_,h.1⟩) fun c=>?_;obtain⟨La,Lb,va,vb,T⟩:=T.tp c;rcases hS with⟨h0,rfl,rfl⟩|⟨s,k,a,b⟩
 ·refine(Za _ _ xa La T.A hR.fM 0 t h0).mono ?_;rintro e m ⟨rfl,a,b⟩;exact⟨rfl,T.go a b⟩
 ·refine(OZ _ _ xa La T.A hR.fM 0 t s k a (hR.core.cl s k a.at_).1.aO).mono ?_;rw[b];rintro e m ⟨rfl,o,d,f⟩;exact⟨rfl,T.go d f⟩
theorem To(j:Fit prog l)(m:aA.ok 33)(T:Twin u g kc ca cb xa xb fa fb)(hR:fa.Rest){x n}(hS:CQ fa sX x n):
  eI prog 33 #[pt xa,aj 0,aj 1099511627776] u fun e u'=>e=.returned (.tuple #[.string x,aj n])/\Twin u' g kc ca cb xa xb sX fb:=by
 refine eI.lift j m (fun e u b h=>⟨h.1,h.2.tp b⟩) (fun e u h=>⟨_,h.1⟩) fun b=>?_;obtain⟨La,Lb,va,vb,T⟩:=T.tp b;rcases hS with⟨h0,rfl,rfl,rfl⟩|⟨s,k,a,rfl,rfl,rfl⟩
 ·refine(Zd _ _ xa La T.A hR.fM 0 _ h0).mono ?_;rintro e o ⟨rfl,a,d⟩;exact⟨rfl,T.go a d⟩
 ·have c:=(hR.core.cl s k a.at_);have r:=c.1.out;have t:0<=k.prom:=by rw[c.2.2];exact hR.core.prom s
  have q:=hR.core.g.ou;refine(Zb _ _ xa La T.A hR.fM 0 _ s k a ak (hR.take a.at_ _).1.core.stay).mono ?_;rintro e o ⟨rfl,p,f,i⟩;exact⟨rfl,T.go f i⟩
theorem Tm(f:Fit prog l)(i:aA.ok 34)(T:Twin u g kc ca cb xa xb fa fb)(hR:fa.Rest){v n}(hS:CN fa v n):
  eI prog 34 #[pt xa,aj 0] u fun e u'=>e=.returned (.tuple #[.agg v,aj n])/\Twin u' g kc ca cb xa xb fa fb/\u.heap.size<=u'.heap.size/\∀b,b<u.heap.size->u'.heap[b]? =u.heap[b]? :=by
 refine eI.lift f i (fun e u c h=>⟨h.1,h.2.1.tp c,h.2.2⟩) (fun e u h=>⟨_,h.1⟩) fun c=>?_;obtain⟨La,Lb,va,vb,T⟩:=T.tp c;rcases hS with⟨h0,rfl,rfl⟩|⟨s,k,d,rfl,rfl⟩
 ·refine(YO _ _ xa La T.A hR.fM 0 h0).mono ?_;rintro e j ⟨rfl,a⟩;exact⟨rfl,T.go (T.A.below a) (.JF a),a.size,a.block⟩
 ·refine(YN _ _ xa La T.A hR.fM 0 s k d).mono ?_;rintro e j ⟨rfl,a⟩;exact⟨rfl,T.go (T.A.below a) (.JF a),a.size,a.block⟩
theorem Tl(b:Fit prog l)(c:aA.ok 20)(T:Twin u g kc ca cb xa xb fa fb)(hR:fa.Rest):
  eI prog 20 #[pt xa] u fun e u'=>e=.returned (.string ⟨fa.B⟩)/\Twin u' g kc ca cb xa xb fa fb:=by
 refine eI.lift b c (fun e u a h=>⟨h.1,h.2.tp a⟩) (fun e u h=>⟨_,h.1⟩) fun a=>?_;obtain⟨La,Lb,va,vb,T⟩:=T.tp a;refine(YR _ _ xa La T.A hR.core.B.symm).mono ?_;rintro e d ⟨rfl,m,rfl⟩;exact⟨rfl,T.go (T.A.drewN m) ⟨fun _ _=>rfl,⟨rfl,aV _,fun _ _ _=>rfl⟩⟩⟩
variable [Payload]
theorem Tp(G:Ar l)(T:Twin u g kc ca cb xa xb fa fb)(hR:fa.Rest)(hc:fa.clock<1073741824):
  eI prog 26 #[pt xa] u fun e u'=>e=.returned (.tuple #[])/\(fa.tick.Rest/\fa.tick.clock=fa.clock+1)/\Twin u' g kc ca cb xa xb fa.tick fb:=by
 obtain⟨La,Lb,va,vb,T⟩:=T;refine(T.A.ticks bld G hR hc).mono ?_;rintro e u' ⟨rfl,a,d,b,c⟩;exact⟨rfl,a,T.go b c⟩
end
end
section
open Go.Conc Go.RowKit
open Go.Proofs.Tryz
structure Aw(u:an)(g:Cf)(kc ca xa:Nat)(a:Fx)(La:cQ)(c:au):Prop where
 cfg:u.heap[kc]? =some (.cells (gO g) 35 (0,0))
 mX:lF u ca g xa c
 A:ay u a xa La
 oA:La.own kc=0/\La.own ca=0
 nA:∀b,u.heap.size<=b->La.own b=0
theorem Aw.tp{u g kc ca xa fa La va}(T:Aw u g kc ca xa fa La va)(a:Tape):Aw (u.tp a) g kc ca xa fa La va:=⟨T.cfg,T.mX,T.A.tp a,T.oA,T.nA⟩
theorem oX.tp{u g kc ca cb xa xb fa fb La Lb va vb}(T:oX u g kc ca cb xa xb fa fb La Lb va vb)(a:Tape):oX (u.tp a) g kc ca cb xa xb fa fb La Lb va vb:=⟨T.cfg,T.mX,T.uO,T.A.tp a,T.B.tp a,T.oA,T.oB,T.gP,T.nA,T.nB,T.ne⟩
section
variable [aA] {l:List bh} {u:an} {g:Cf} {kc ca cb xa xb:Nat} {La Lb:cQ}
theorem Wn(o:Fit prog l)(q:aA.ok 30)(p:pg g.sz g.cl g.qu g.mx g.qn g.rt g.bu g.wk g.ou=true)(d:u.heap[kc]? =some (.cells (gO g) 35 (0,0))):
  eI prog 30 #[.agg (gO g)] u fun e r=>∃ca xa La,e=.returned (pt ca)/\Aw r g kc ca xa (Fx.new g) La (.slice none 0 0):=by
 refine eI.lift o q (fun e u c ⟨ca,xa,La,a,b⟩=>⟨ca,xa,La,a,b.tp c⟩) (fun e u ⟨ca,xa,La,h,_⟩=>⟨_,h⟩) fun c=>?_;refine(Nf g p (u.tp c)).mono ?_;rintro e w ⟨ca,xa,L,rfl,a,b,f,i,v,j,m⟩;exact⟨ca,xa,L,rfl,bD m d,a,b,⟨f kc ((aP.1 d).1),i⟩,j⟩
theorem Wo(q:Fit prog l)(w:aA.ok 30)(r:pg g.sz g.cl g.qu g.mx g.qn g.rt g.bu g.wk g.ou=true)(T:Aw u g kc ca xa (Fx.new g) La (.slice none 0 0)):
  eI prog 30 #[.agg (gO g)] u fun e x=>∃cb xb Lb,e=.returned (pt cb)/\oX x g kc ca cb xa xb (Fx.new g) (Fx.new g) La Lb (.slice none 0 0) (.slice none 0 0):=by
 refine eI.lift q w (fun e u a ⟨ca,xa,La,d,f⟩=>⟨ca,xa,La,d,f.tp a⟩) (fun e u ⟨ca,xa,La,h,_⟩=>⟨_,h⟩) fun a=>?_;refine(Nf g r (u.tp a)).mono ?_;rintro e y ⟨cb,xb,L,rfl,d,f,i,m,o,p,c⟩;have T:=T.tp a;have v:=(aP.1 T.mX).1;refine⟨cb,xb,L,rfl,bD c T.cfg,bD c T.mX,d,T.A.below c,f,⟨T.oA.1,T.oA.2,T.nA cb o⟩,⟨i kc ((aP.1 T.cfg).1),i ca v,m⟩,fun b=>?_,fun b j=>T.nA b (cS c.size j),p,ak⟩
 by_cases j:b<(u.tp a).heap.size
 ·exact .inr (i b j)
 ·exact .inl (T.nA b ak)
theorem Oh(r:Fit prog l)(w:aA.ok 31)(hI:g.Is){fb vb}(T:oX u g kc ca cb xa xb (Fx.new g) fb La Lb (.slice none 0 0) vb):
  eI prog 31 #[pt ca,aj 0] u fun e z=>e=.returned (.bool true)/\∃La m,oX z g kc ca cb xa xb (Fx.begun g) fb La Lb m vb:=by
 refine eI.lift r w (fun e u a ⟨f,La,m,i⟩=>⟨f,La,m,i.tp a⟩) (fun e u h=>⟨_,h.1⟩) fun a=>?_;have T:=T.tp a;refine(XT ca xa g La (u.tp a) hI T.mX T.A T.oA.2.1).mono ?_;rintro e C ⟨rfl,p,y,f,i,d,j,q⟩;have lt:∀{b:Nat} {o:Obj},(u.tp a).heap[b]? =some o->b<(u.tp a).heap.size:=fun h=>(aP.1 h).1;have keep:∀{b:Nat} {o:Obj},(u.tp a).heap[b]? =some o->La.own b=0->b≠ca->C.heap[b]? =some o:=fun h h0 v=>tM j h fun x=>x.elim (fun x=>x h0) v;refine⟨rfl,p,y,keep T.cfg T.oA.1 (uM T.cfg T.mX cq),i,keep T.uO T.oA.2.2 T.ne.symm,f,T.B.sZ fun b c h0=>?_,⟨?_,?_,?_⟩,T.oB,fun b=>?_,q,fun b c=>T.nB b (cS j.size c),T.ne⟩
 ·refine j.block b c fun x=>x.elim (fun x=>x ((T.gP b).resolve_right h0)) fun e=>?_;rw[e]at h0;exact h0 T.oB.2.1
 ·exact(d _ (lt T.cfg)).trans T.oA.1
 ·exact(d _ (lt T.mX)).trans T.oA.2.1
 ·exact(d _ (lt T.uO)).trans T.oA.2.2
 ·by_cases c:b<(u.tp a).heap.size
  ·rw[d b c];exact T.gP b
  ·exact .inr (T.nB b ak)
end
section
variable {F F':Fx} {t:ByteArray} {n:Int} {s:Nat} {k:Ck}
theorem abb(h:Sends F t F' 0):∃s k,F.Is 0 s k/\k.ph≠4/\k.aO.size+t.size<=1024/\F'=F.at s (k.send t):=by
 rcases h with⟨_,_,h⟩|⟨s,k,b,a⟩
 ·cases h
 ·refine⟨s,k,b,?_⟩;unfold Fx.send at a;split at a
  ·cases a
  ·rename_i c;split at a
   ·cases a
   ·rename_i d;cases a;exact⟨c,ak,rfl⟩
theorem aba(h:Sends F t F' n)(b:n≠0):F'=F:=by
 rcases h with⟨_,h,_⟩|⟨s,k,c,a⟩
 ·exact h
 ·unfold Fx.send at a;split at a
  ·cases a;rfl
  ·split at a
   ·cases a;rfl
   ·cases a;exact absurd rfl b
def cutAt(F:Fx)(s:Nat)(k:Ck)(t:ByteArray)(n:Nat):Fx:=F.at s (k.send (t.extract 0 n))
theorem Xj(h:F.Is 0 s k):cutAt F s k t 0=F:=by
 have e:t.extract 0 0=ByteArray.empty:=aq
 have a:k.send (t.extract 0 0)=k:=by unfold Ck.send;rw[e,ByteArray.append_empty]
 unfold cutAt;rw[a]
 have:F.K.set s (some k)=F.K:=by
  refine tY fun i=>?_;rw[kQ];split
  ·rename_i b;subst b;split
   ·exact h.at_.symm
   ·rename_i c;have:=(ed.1 h.at_).1;omega
  ·rfl
 unfold Fx.at;rw[this]
theorem Xg:cutAt F s k t t.size=F.at s (k.send t):=by unfold cutAt;rw[ByteArray.extract_zero_size]
theorem NQ(h:F.Is 0 s k)(a:k.ph≠4)(b:k.aO.size+t.size<=1024)(m)(hm:m<=t.size):Sends F (t.extract 0 m) (cutAt F s k t m) 0:=by refine .inr ⟨s,k,h,?_⟩;unfold Fx.send;rw[aD a,aD (by rw[kL];omega)];rfl
theorem Xi(hR:F.Rest)(h:F.Is 0 s k)(a:k.ph≠4)(f:k.aO.size+t.size<=1024)(m j)(hm:m+j<=t.size):Sends (cutAt F s k t m) (t.extract m (m+j)) (cutAt F s k t (m+j)) 0:=by
 have e:(cutAt F s k t m).K[s]? =some (some (k.send (t.extract 0 m))):=pU (ed.1 h.at_).1
 have i:(cutAt F s k t m).Is 0 s (k.send (t.extract 0 m)):=by
  have:=((Sends.rest hR (NQ h a f m ak)).1).core.is e
  rwa [show(k.send (t.extract 0 m)).no=0 from h.no]at this
 refine .inr ⟨s,_,i,?_⟩;unfold Fx.send;have b:(k.send (t.extract 0 m)).ph=k.ph:=rfl
 have c:(k.send (t.extract 0 m)).aO.size=k.aO.size+m:=by show(k.aO++t.extract 0 m).size=_;rw[ot,kL];omega
 rw[b,aD a,c,aD (by rw[kL];omega)]
 have d:(k.send (t.extract 0 m)).send (t.extract m (m+j))=k.send (t.extract 0 (m+j)):=by unfold Ck.send;show({k with aO:=k.aO++t.extract 0 m++t.extract m (m+j)}:Ck)=_;rw[ByteArray.append_assoc,ByteArray.extract_append_extract];simp
 rw[d];show(({F with K:=(F.K.set s (some (k.send (t.extract 0 m)))).set s (some (k.send (t.extract 0 (m+j))))}:Fx),(0:Int))=(cutAt F s k t (m+j),0);rw[List.set_set];rfl
end
end
section
attribute [local go_sem ↓] Go.wp_at_zero Go.wp_at_succ
attribute [local go_sem] bq bg
open Go.Conc Go.RowKit
open Go.ConcR (Payload)
open Go.Proofs.Tryz
def AA:Nat->Code->Code|0,c=>c|n+1,c=>AA n (gY c)
def pLB(c:Code):Code:=rq (rq (gY (mV (AA 8 c))))
def pRB(c:Code):Code:=rq (mV (gY (pLB c)))
structure Aq[aA](l:List bh):Prop where
 k:CC l
 x:Ar l
 dep:aA.depth=1
 oA:aA.ok 30
 oE:aA.ok 31
 oS:aA.ok 37
 oT:aA.ok 33
 oC:aA.ok 34
 oD:aA.ok 20
 kA:aA.known 30
 kE:aA.known 31
 kS:aA.known 37
 kT:aA.known 33
 kC:aA.known 34
 kD:aA.known 20
 kI:aA.known 26
theorem Twin.xa{u g kc ca cb xa xb fa fb}(T:Twin u g kc ca cb xa xb fa fb)(a:Tape):(u.tp a).cell? (aa ca 9)=some (pt xa):=by obtain⟨b,c,d,e,T⟩:=T.tp a;exact av T.mX rfl
theorem Twin.drew{u g e a b xa xb c d}(T:Twin u g e a b xa xb c d):Twin {u with drawn:=u.drawn+1} g e a b xa xb c d:=by obtain⟨f,h,i,j,T⟩:=T;exact⟨f,h,i,j,T.cfg,T.mX,T.uO,T.A.old fun _ _=>rfl,T.B.old fun _ _=>rfl,T.oA,T.oB,T.gP,T.nA,T.nB,T.ne⟩
def GP[aA](ad:Option eV)(len:Nat):Prop:=len=0\/∃(b off:Nat) (a:Obj) (z:Nat->ByteArray),ad=some ⟨b,off,none⟩/\aA.wat b=some a/\∀i,i<len->(z i).size<=bT/\∀w:an,w.heap[b]? =some a->w.cell? (aa b (off+i))=some (.string (z i))
end
section
open Go.Conc Go.RowKit
open Go.Proofs.Tryz
theorem AH(st:Fx->Nat->Fx)(h:∀f s,(st f s).g=f.g):∀(l:List Nat) (f:Fx),(l.foldl st f).g=f.g
 |[],f=>rfl
 |s::l,f=>(AH st h l (st f s)).trans (h f s)
theorem XM(f:Fx)(s:Nat):(f.fF s).g=f.g:=by unfold Fx.fF;split<;>rfl
theorem K9(f:Fx)(s:Nat):(f.ff s).g=f.g:=by unfold Fx.ff;split<;>rfl
theorem Pd(f:Fx)(s:Nat):(f.fZ s).g=f.g:=by
 unfold Fx.fZ;split
 ·split<;>rfl
 ·rfl
theorem XD(f:Fx)(b:Jb):(f.does b).g=f.g:=by unfold Fx.does;split<;>rfl
theorem Oz:∀(n:Nat) (f:Fx),(Fx.fin n f).g=f.g
 |0,f=>rfl
 |n+1,f=>by
  unfold Fx.fin;split
  ·rfl
  ·split
   ·exact(Oz n _).trans (XD _ _)
   ·rfl
theorem Tu(f:Fx):f.bC.1.g=f.g:=by
 unfold Fx.bC;split
 ·split
  ·split<;>rfl
  ·rfl
 ·rfl
theorem KZ:∀(n p:Nat) (f:Fx),(Fx.turns n p f).g=f.g
 |0,_,f=>rfl
 |n+1,p,f=>by
  unfold Fx.turns;split
  ·split
   ·exact(KZ n _ _).trans (Tu f)
   ·exact(KZ n _ _).trans (Tu f)
  ·rfl
theorem XL(f:Fx):f.early.g=f.g:=AH _ XM _ _
theorem Zr(f:Fx):f.goes.g=f.g:=by
 unfold Fx.goes;split
 ·rfl
 ·exact(AH _ K9 _ _).trans rfl
theorem adS(f:Fx):f.tick.g=f.g:=
 (AH _ Pd _ _).trans ((KZ _ _ _).trans ((Oz _ _).trans ((Zr _).trans (XL f))))
theorem Sends.g{f f' t n}(h:Sends f t f' n):f'.g=f.g:=by
 rcases h with⟨_,rfl,_⟩|⟨s,k,c,b⟩
 ·rfl
 ·have a:(f.send s k t).1.g=f.g:=by
   unfold Fx.send;split
   ·rfl
   ·split<;>rfl
  rw[b]at a;exact a
theorem CQ.g{f f' x n}(h:CQ f f' x n):f'.g=f.g:=by
 rcases h with⟨_,rfl,_,_⟩|⟨s,k,a,rfl,_⟩
 ·rfl
 ·exact(AH _ Pd _ _).trans rfl
end
section
attribute [local go_sem ↓] Go.wp_at_zero Go.wp_at_succ
attribute [local go_sem] bq bg Ib Ic xw
open Go.Conc Go.RowKit
open Go.ConcR (Payload)
open Go.Proofs.Tryz
theorem Twin.afq{u g kc ca cb xa xb fa fb}(T:Twin u g kc ca cb xa xb fa fb):u.heap[kc]? =some (.cells (gO g) 35 (0,0)):=by obtain⟨b,c,d,e,T⟩:=T;exact T.cfg
abbrev LP(v0 v1 b:au)(kc ca cb:Nat)(i:Int)(r:List (Nat×au)):List (Nat×au):=(0,v0)::(1,v1)::(2,b)::(7,pt kc)::(8,pt ca)::(9,pt cb)::(12,aj i)::r
abbrev LI(v0 v1 b:au)(kc ca cb:Nat)(i:Int)(t:ByteArray)(n0 m j:Int):List (Nat×au):=LP v0 v1 b kc ca cb i [(13,.string t),(14,aj n0),(15,aj m),(17,aj j)]
abbrev lB(b c d e f h j k:Int):Array au:=#[aj b,aj c,aj d,aj e,aj f,aj h,aj j,aj k]
abbrev Nc(u:an)(b:Nat)(c d e f h j k m:Int):Prop:=u.heap[b]? =some (.cells (lB c d e f h j k m) 68 (0,0))
section
variable [aA] [Payload] {l:List bh} {u:an} {a:Act} {Q:Exit->Act->an->Prop} {v0 v1:au} {ac al sa:Option eV} {lc cc ll cl ls cs kc ca cb xa xb:Nat} {i n0:Int} {g:Cf} {F F':Fx} {t:ByteArray}
def InL(S:Nat->Fx)(F':Fx)(v0 v1:au)(ac:Option eV)(lc cc kc ca cb xa xb:Nat)(i n0:Int)(g:Cf)(t:ByteArray)(a:Act)(u:an):Prop:=
 ∃m j:Nat,Fa 205 a (LI v0 v1 (.slice ac lc cc) kc ca cb i t n0 m j)/\m<=t.size/\j<=m/\(n0≠0->m=0)/\Twin u g kc ca cb xa xb F' (S m)
def leftOf(n k:Nat)(a:Act):Nat:=n-(match a.eval (.tmp k)with|.int _ x=>x.toNat|_=>0)
theorem Ee{n k m:Nat}(h:a.eval (.tmp k)=aj (m:Int)):leftOf n k a=n-m:=by unfold leftOf;rw[h];simp
theorem cp8{x0 x1 x2 x3 x4 x5 x6 x7 b L k1 k2 ps af}{h:aK}(d:b=u.heap.size)(c:Tape)(e:iL L (.tmp k1)=pt b:=by rfl) (f:iL L (.tmp k2)=.agg (lB x0 x1 x2 x3 x4 x5 x6 x7):=by rfl):(execOp (iL L) ⟨none,.store 68 (.tmp k1) (.tmp k2),h,ps,af,none⟩).run prog ((u.alloc (.cells (lB 0 0 0 0 0 0 0 0) 68)).tp c)=.ok .skip ((u.alloc (.cells (lB x0 x1 x2 x3 x4 x5 x6 x7) 68)).tp c):=by show(execOp _ _).run _ ((u.tp c).alloc (.cells (lB 0 0 0 0 0 0 0 0) 68))=Mq _ ((u.tp c).alloc (.cells (lB x0 x1 x2 x3 x4 x5 x6 x7) 68));have d:b=(u.tp c).heap.size:=d;generalize u.tp c=y at*;subst d;unfold execOp;simp only[e,f];go_simp
theorem aby{m q}(h:m+q<=t.size)(w){L d k1 k2 k3 ps af}{f:aK}(b:iL L (.tmp k1)=.string t:=by rfl) (c:iL L (.tmp k2)=aj (m:Int):=by rfl) (e:iL L (.tmp k3)=aj ((m:Int)+(q:Int)):=by rfl):(execOp (iL L) ⟨some d,.slice 9 (.tmp k1) (some (.tmp k2)) (some (.tmp k3)) none,f,ps,af,none⟩).run prog w=.ok (.value (.string (t.extract m (m+q)))) w:=by have j:(m:Int)<=(m:Int)+(q:Int):=ak;have k:(m:Int)+(q:Int)<=(t.size:Int):=ak;have n:((m:Int)+(q:Int)).toNat=m+q:=ak;unfold execOp;simp only[b,c,e,qV,Cg];go_simp
theorem Qh(G:Aq l)(S:Nat->Fx)(I:lc<=bT)(V:sR ac lc)(hi:0<=i/\i<=1073741824)(Y:n0=0->t.size<=1024)(X:n0=0->∀m q,m+q<=t.size->Sends (S m) (t.extract m (m+q)) (S (m+q)) 0)(W:n0=0->∀m,m<=t.size->(S m).Rest)(P:n0=0->S t.size=F')(H:n0≠0->S 0=F')
  (E:Fa 205 a (LI v0 v1 (.slice ac lc cc) kc ca cb i t n0 0 0)) (T:Twin u g kc ca cb xa xb F' (S 0))
  (D:∀b J,Fa 205 b (LP v0 v1 (.slice ac lc cc) kc ca cb i [])->Twin J g kc ca cb xa xb F' F'->Q .normal b J):FX fH 12 0 prog (gY (mV (AA 4 (pRB (oZ f12))))) Q a u:=by
 have M:=G.x.fit;have aq:lc<=9223372036854775807:=I;refine FX.bk 2 (FX.lp (InL S F' v0 v1 ac lc cc kc ca cb xa xb i n0 g t) (fun a _=>leftOf t.size 15 a) ⟨0,0,E,eE _,aV _,fun _=>rfl,T⟩ ?_);rintro a u ⟨m,j,E,hm,f,y,T⟩;have R:=Ee (n:=t.size) (E.at_ 15 _ rfl);refine FX.sq (FX.sq (FX.reg [0,1,2,3,4,5,6,7] ?_))
 by_cases av:m<t.size
 ·by_cases h0:n0=0
  ·have ay:=Y h0
   iterate 3 refine FE.ow E fun a _ E=>?_
   refine FE.ow (v:=.bool true) E (hr:=fun h=>by have w:(m:Int)<(t.size:Int):=ak;go_simp) fun a _ E=>?_
   iterate 2 refine FE.ow E fun a _ E=>?_
   refine FE.ow (v:=.bool true) E (hr:=fun h=>by subst h0;go_simp) fun a _ E=>?_;refine FE.ow E fun a _ E=>FO.nil ?_;refine FX.cT E (FX.sk ?_)
   replace E:Fa 205 a (LI v0 v1 (.slice ac lc cc) kc ca cb i t n0 m j):=E.to
   refine FX.sq (FX.bk 3 (FX.sq (FX.reg [0,1,2,3,4,5,6,7,8,9,10,11] ?_)));refine FE.bl E fun a _ E=>?_
   iterate 2 refine FE.ow E fun a _ E=>?_
   refine FE.ar E fun a _ E=>?_;refine FE.raw G.k I V E fun z a Z _ E=>?_
   iterate 3 refine FE.ow E fun a _ E=>?_
   refine FE.ar E fun a _ E=>?_;refine FE.rJ G.k Z E fun r a hr _ E=>?_;refine FE.ar E fun a _ E=>?_;refine FE.ow E fun a _ E=>FO.nil ?_;obtain⟨q,U⟩:∃q:Nat,1+r=(q:Int):=⟨(1+r).toNat,ak⟩;rw[U]at E;have A:m+q<=t.size:=ak
   replace E:Fa 205 a ((18,aj (q:Int))::LI v0 v1 (.slice ac lc cc) kc ca cb i t n0 m j):=E.to
   refine FX.sq (FX.dr 12 10 (fun i v=>match i with|0=>v=pt cb|1=>v=pt cb|2=>v=.pointer (some (aa cb 9))|3=>v=pt xb|4=>v=.string t|5=>v=aj (m:Int)|6=>v=aj (m:Int)|7=>v=aj (q:Int)|8=>v=aj ((m:Int)+(q:Int))|9=>v=.string (t.extract m (m+q))|_=>True) E (fun C o x B a is E f c=>?_) fun C o a E hv=>?_)
   ·have p:Twin C g kc ca cb xa xb F' (S m):=by rw[o];exact T.drew
    clear o T
    match x,B with
    |0,_=>exact FE.ow E fun b N _=>c b _ rfl N
    |1,_=>exact FE.ow (E.add (d:=87) (f 0 rfl)) fun b N _=>c b _ rfl N
    |2,_=>exact FE.ow (E.add (d:=88) (f 1 rfl)) fun b N _=>c b _ rfl N
    |3,_=>exact FE.ow (v:=pt xb) (E.add (d:=89) (f 2 rfl)) (hr:=fun h=>by have af:=p.swap.xa h;clear p;go_simp) fun b N _=>c b _ rfl N
    |4,_=>exact FE.ow E fun b N _=>c b _ rfl N
    |5,_=>exact FE.ow E fun b N _=>c b _ rfl N
    |6,_=>exact FE.ow E fun b N _=>c b _ rfl N
    |7,_=>exact FE.ow E fun b N _=>c b _ rfl N
    |8,_=>exact FE.ar ((E.add (d:=93) (f 6 rfl)).add (d:=94) (f 7 rfl)) fun b N _=>c b _ rfl N
    |9,_=>exact FE.ow (v:=.string (t.extract m (m+q))) (((E.add (d:=91) (f 4 rfl)).add (d:=92) (f 5 rfl)).add (d:=95) (f 8 rfl)) (hr:=fun h=>aby A _) fun b N _=>c b _ rfl N
    |m+10,hm=>omega
   have p:Twin C g kc ca cb xa xb F' (S m):=by rw[o];exact T.drew
   clear o T
   replace E:=(E.add (d:=90) (hv 3 rfl)).add (d:=96) (hv 9 rfl)
   refine gA.one (j:=10) aI fun is s=>?_;refine FE.cx E G.dep G.kS ((Tn M G.oS p.swap (W h0 m hm) (X h0 m q A)).mono ?_);rintro e K ⟨rfl,L⟩;refine⟨_,rfl,fun a _ E=>s a K ?_⟩;refine gA.one (j:=11) aI fun is s=>?_;refine FE.ow E fun a _ E=>s a K (gA.none aI ?_)
   replace E:Fa 205 a ((16,aj 0)::(18,aj (q:Int))::LI v0 v1 (.slice ac lc cc) kc ca cb i t n0 m j):=E.to
   refine FX.sq (FX.reg [0,1,2,3] ?_)
   iterate 2 refine FE.ow E fun a _ E=>?_
   refine FE.ar E fun a _ E=>?_;refine FE.ow E fun a _ E=>FO.nil ?_;refine FX.sq (FX.reg [0,1] ?_);refine FE.ow E fun a _ E=>?_;refine FE.ow (v:=.bool false) E fun a _ E=>FO.nil ?_;refine FX.cF E (FX.sk ?_);refine FX.reg [0,1,2] ?_;refine FE.ow E fun a _ E=>?_;refine FE.ar E fun a _ E=>?_;refine FE.ow E fun a _ E=>FO.nil ?_;rw[show(m:Int)+(q:Int)=((m+q:Nat):Int) by simp,show(j:Int)+1=((j+1:Nat):Int) by simp]at E;refine⟨⟨m+q,j+1,E.to,A,ak,fun B=>absurd h0 B,L.swap⟩,?_⟩;rw[R,Ee (n:=t.size) (E.at_ 15 _ rfl)];omega
  ·rw[y h0,H h0]at T;clear y
   iterate 3 refine FE.ow E fun a _ E=>?_
   refine FE.ow (v:=.bool true) E (hr:=fun h=>by have w:(m:Int)<(t.size:Int):=ak;go_simp) fun a _ E=>?_
   iterate 2 refine FE.ow E fun a _ E=>?_
   refine FE.ow (v:=.bool false) E (hr:=fun h=>by have w:=h0;go_simp) fun a _ E=>?_;refine FE.ow E fun a _ E=>FO.nil ?_;exact FX.cF E (FX.ex 2 (D a u E.to T))
 ·have O:Twin u g kc ca cb xa xb F' F':=by
   by_cases h0:n0=0
   ·rw[show m=t.size by omega,P h0]at T;exact T
   ·rw[y h0,H h0]at T;exact T
  iterate 3 refine FE.ow E fun a _ E=>?_
  refine FE.ow (v:=.bool false) E (hr:=fun h=>by have w:¬(m:Int)<(t.size:Int):=ak;go_simp) fun a _ E=>?_;refine FE.ow E fun a _ E=>?_;refine FE.un0 E fun a _ E=>?_;refine FE.un0 E fun a _ E=>?_;refine FE.ow E fun a _ E=>FO.nil ?_;exact FX.cF E (FX.ex 2 (D a u E.to O))
theorem aat(G:Aq l){n:Nat}(af:lc<=bT)(PY:sR ac lc)(hn:n<=1073741823)(hR:F.Rest)(hc:F.clock=n)(az:F.g=g)
  (E:Fa 205 a (LP v0 v1 (.slice ac lc cc) kc ca cb n [(13,.string t)])) (T:Twin u g kc ca cb xa xb F F)
  (hQ:∀J N F',Fa 205 J (LP v0 v1 (.slice ac lc cc) kc ca cb n [])->Twin N g kc ca cb xa xb F' F'->F'.Rest->F'.clock=n+1->F'.g=g->Q .normal J N):FX fH 12 0 prog (gY (pRB (oZ f12))) Q a u:=by
 have L:=G.x.fit;obtain⟨V,n0,hS⟩:=aaZ hR t;have K:=hS.rest hR;refine FX.sq (FX.reg [0,1,2,3,4,5,6] ?_)
 iterate 3 refine FE.ow E fun a _ E=>?_
 refine FE.ow (v:=pt xa) E (hr:=fun c=>by have H:=T.xa c;go_simp) fun a _ E=>?_;refine FE.ow E fun a _ E=>?_;refine FE.cx E G.dep G.kS ((Tn L G.oS T hR hS).mono ?_);rintro e u ⟨rfl,T⟩;refine⟨_,rfl,fun a _ E=>?_⟩;refine FE.ow E fun a _ E=>FO.nil ?_;refine FX.sq (FX.reg [0] ?_);refine FE.ow E fun a _ E=>FO.nil ?_;refine FX.sq (FX.reg [0] ?_);refine FE.ow E fun a _ E=>FO.nil ?_;refine FX.sq (FX.sq (FX.reg [0] ?_));refine FE.ow E fun a _ E=>FO.nil ?_
 have aa:∀J N,Fa 205 J (LP v0 v1 (.slice ac lc cc) kc ca cb n [])->Twin N g kc ca cb xa xb V V->FX fH 12 0 prog (AA 5 (pRB (oZ f12))) Q J N:=by
  intro a u E T;refine FX.sq (FX.reg [0,1,2,3,4] ?_)
  iterate 3 refine FE.ow E fun a _ E=>?_
  refine FE.ow (v:=pt xa) E (hr:=fun c=>by have H:=T.xa c;go_simp) fun a _ E=>?_;refine FE.cx E G.dep G.kI ((Tp G.x T K.1 (by rw[K.2,hc];omega)).mono ?_);rintro e u ⟨rfl,⟨R,Z⟩,T⟩;refine⟨_,rfl,fun a _ E=>FO.nil ?_⟩
  replace E:Fa 205 a (LP v0 v1 (.slice ac lc cc) kc ca cb n []):=E.to
  refine FX.sq (FX.reg [0,1,2,3,4] ?_)
  iterate 3 refine FE.ow E fun a _ E=>?_
  refine FE.ow (v:=pt xb) E (hr:=fun c=>by have H:=T.swap.xa c;go_simp) fun a _ E=>?_;refine FE.cx E G.dep G.kI ((Tp G.x T.swap K.1 (by rw[K.2,hc];omega)).mono ?_);rintro e u ⟨rfl,⟨R,Z⟩,T⟩;refine⟨_,rfl,fun a _ E=>FO.nil ?_⟩
  replace T:=T.swap
  replace E:Fa 205 a (LP v0 v1 (.slice ac lc cc) kc ca cb n []):=E.to
  obtain⟨F2,x,C,X,P,aB⟩:=adN R;refine FX.sq (FX.reg [0,1,2,3,4,5,6,7,8,9] ?_)
  iterate 3 refine FE.ow E fun a _ E=>?_
  refine FE.ow (v:=pt xa) E (hr:=fun c=>by have H:=T.xa c;go_simp) fun a _ E=>?_;refine FE.cx E G.dep G.kT ((To L G.oT T R X).mono ?_);rintro e u ⟨rfl,T⟩;refine⟨_,rfl,fun a _ E=>?_⟩;refine FE.ow E fun a _ E=>?_;refine FE.ow (v:=.string x) E fun a _ E=>?_;refine FE.ow (v:=aj C) E fun a _ E=>?_;refine FE.ow E fun a _ E=>?_;refine FE.ow E fun a _ E=>FO.nil ?_;refine FX.sq (FX.reg [0,1,2,3,4,5,6,7,8,9] ?_)
  iterate 3 refine FE.ow E fun a _ E=>?_
  refine FE.ow (v:=pt xb) E (hr:=fun c=>by have H:=T.swap.xa c;go_simp) fun a _ E=>?_;refine FE.cx E G.dep G.kT ((To L G.oT T.swap R X).mono ?_);rintro e u ⟨rfl,T⟩;refine⟨_,rfl,fun a _ E=>?_⟩;refine FE.ow E fun a _ E=>?_;refine FE.ow (v:=.string x) E fun a _ E=>?_;refine FE.ow (v:=aj C) E fun a _ E=>?_;refine FE.ow E fun a _ E=>?_;refine FE.ow E fun a _ E=>FO.nil ?_
  replace T:=T.swap
  replace E:Fa 205 a (LP v0 v1 (.slice ac lc cc) kc ca cb n [(19,.string x),(20,aj C),(21,.string x),(22,aj C)]):=E.to
  obtain⟨v,M,W⟩:=D9 P;obtain⟨f,h,j,p,r,w,y,z,rfl⟩:=W.form;refine FX.sq (FX.reg [0,1,2,3,4,5,6,7,8,9,10] ?_)
  iterate 3 refine FE.ow E fun a _ E=>?_
  refine FE.ow (v:=pt xa) E (hr:=fun c=>by have H:=T.xa c;go_simp) fun a _ E=>?_;refine FE.cx E G.dep G.kC ((Tm L G.oC T P W).mono ?_);rintro e d ⟨rfl,I,Y,S⟩;refine⟨_,rfl,fun a _ E=>?_⟩;refine FE.ow E fun a _ E=>?_;refine FE.ow (v:=.agg (lB f h j p r w y z)) E fun a _ E=>?_;refine FE.ow (v:=aj M) E fun a _ E=>?_;refine FE.nw (v:=pt d.heap.size) E (d.alloc (.cells (lB 0 0 0 0 0 0 0 0) 68)) (hr:=fun c=>by go_simp;rfl) fun a _ E=>?_;obtain⟨U,A⟩:∃b,b=d.heap.size:=⟨_,rfl⟩;rw[<-A]at E;refine FE.vo E (d.alloc (.cells (lB f h j p r w y z) 68)) ?_ (hr:=fun c=>?_)
  rotate_left
  ·exact cp8 A c
  refine FE.ow E fun a _ E=>FO.nil ?_;have D:Nc _ U f h j p r w y z:=new1 A
  replace T:=(I).alloc (.cells (lB f h j p r w y z) 68)
  generalize d.alloc (.cells (lB f h j p r w y z) 68)=u at*;clear I S Y A
  replace E:Fa 205 a (LP v0 v1 (.slice ac lc cc) kc ca cb n [(19,.string x),(20,aj C),(21,.string x),(22,aj C),(23,pt U),(24,aj M)]):=E.to
  refine FX.sq (FX.reg [0,1,2,3,4,5,6,7,8,9,10] ?_)
  iterate 3 refine FE.ow E fun a _ E=>?_
  refine FE.ow (v:=pt xb) E (hr:=fun c=>by have H:=T.swap.xa c;go_simp) fun a _ E=>?_;refine FE.cx E G.dep G.kC ((Tm L G.oC T.swap P W).mono ?_);rintro e d ⟨rfl,I,Y,S⟩;refine⟨_,rfl,fun a _ E=>?_⟩;refine FE.ow E fun a _ E=>?_;refine FE.ow (v:=.agg (lB f h j p r w y z)) E fun a _ E=>?_;refine FE.ow (v:=aj M) E fun a _ E=>?_;refine FE.nw (v:=pt d.heap.size) E (d.alloc (.cells (lB 0 0 0 0 0 0 0 0) 68)) (hr:=fun c=>by go_simp;rfl) fun a _ E=>?_;obtain⟨pb,A⟩:∃b,b=d.heap.size:=⟨_,rfl⟩;rw[<-A]at E;refine FE.vo E (d.alloc (.cells (lB f h j p r w y z) 68)) ?_ (hr:=fun c=>?_)
  rotate_left
  ·exact cp8 A c
  refine FE.ow E fun a _ E=>FO.nil ?_;have O:Nc _ pb f h j p r w y z:=new1 A
  replace D:=fI (o:=.cells (lB f h j p r w y z) 68) ((S U (aP.1 D).1).trans D)
  replace T:=(I.swap).alloc (.cells (lB f h j p r w y z) 68)
  generalize d.alloc (.cells (lB f h j p r w y z) 68)=u at*;clear I S Y A
  replace E:Fa 205 a (LP v0 v1 (.slice ac lc cc) kc ca cb n [(19,.string x),(20,aj C),(21,.string x),(22,aj C),(23,pt U),(24,aj M),(25,pt pb),(26,aj M)]):=E.to
  refine FX.sq (FX.reg [0,1,2,3,4,5,6,7,8,9,10,11,12,13,14,15,16,17,18,19,20,21,22,23,24,25,26,27,28,29,30,31,32,33,34,35,36,37,38,39,40] ?_)
  iterate 2 refine FE.ow E fun a _ E=>?_
  refine FE.ow (v:=.bool false) E fun a _ E=>?_
  iterate 3 refine FE.ow E fun a _ E=>?_
  refine FE.ow (v:=.bool false) E fun a _ E=>?_
  iterate 4 refine FE.ow E fun a _ E=>?_
  refine FE.ow (v:=.bool false) E fun a _ E=>?_
  iterate 3 refine FE.ow E fun a _ E=>?_
  refine FE.lc E D fun a _ E=>?_;refine FE.ow E fun a _ E=>?_;refine FE.lc E O fun a _ E=>?_;refine FE.ow (v:=.bool false) E fun a _ E=>?_
  iterate 3 refine FE.ow E fun a _ E=>?_
  refine FE.lc E D fun a _ E=>?_;refine FE.ow E fun a _ E=>?_;refine FE.lc E O fun a _ E=>?_;refine FE.ow (v:=.bool false) E fun a _ E=>?_
  iterate 3 refine FE.ow E fun a _ E=>?_
  refine FE.lc E D fun a _ E=>?_;refine FE.ow E fun a _ E=>?_;refine FE.lc E O fun a _ E=>?_;refine FE.ow (v:=.bool false) E fun a _ E=>?_
  iterate 3 refine FE.ow E fun a _ E=>?_
  refine FE.lc E D fun a _ E=>?_;refine FE.ow E fun a _ E=>?_;refine FE.lc E O fun a _ E=>?_;refine FE.ow (v:=.bool false) E fun a _ E=>?_;refine FE.ow E fun a _ E=>FO.nil ?_;refine FX.cF E (FX.sk ?_);exact hQ _ _ F2 E.to T P (by rw[aB,Z,K.2,hc]) (by rw[X.g,adS,hS.g,az])
 by_cases h0:n0=0
 ·subst h0;obtain⟨s,k,hI,hp,aq,rfl⟩:=abb hS;have hr:∀m,m<=t.size->(cutAt F s k t m).Rest:=fun m hm=>(Sends.rest hR (NQ hI hp aq m hm)).1;exact Qh G (cutAt F s k t) af PY ak (fun _=>by omega) (fun _ m q hm=>Xi hR hI hp aq m q hm) (fun _=>hr) (fun _=>Xg) (fun B=>absurd rfl B) E.to (by rw[Xj hI];exact T) aa
 ·have hF:=aba hS h0;subst hF;exact Qh G (fun _=>V) af PY ak (fun B=>absurd B h0) (fun B=>absurd B h0) (fun B=>absurd B h0) (fun B=>absurd B h0) (fun _=>rfl) E.to T aa
def OuL(v0:au)(sa:Option eV)(ls cs:Nat)(ac:Option eV)(lc cc kc ca cb xa xb:Nat)(g:Cf)(a:Act)(u:an):Prop:=
 ∃(n:Nat) (F:Fx),Fa 205 a (LP v0 (.slice sa ls cs) (.slice ac lc cc) kc ca cb n [])/\n<=ls/\Twin u g kc ca cb xa xb F F/\F.Rest/\F.clock=n/\F.g=g
theorem Q4(G:Aq l)(s:lc<=bT)(y:sR ac lc)(C:ls<=1073741823)(A:GP sa ls)
  (E:Fa 205 a (LP v0 (.slice sa ls cs) (.slice ac lc cc) kc ca cb 0 [])) (T:Twin u g kc ca cb xa xb F F) (hR:F.Rest) (hc:F.clock=0) (c:F.g=g)
  (o:∀f k F' n,Fa 205 f (LP v0 (.slice sa ls cs) (.slice ac lc cc) kc ca cb n [])->Twin k g kc ca cb xa xb F' F'->F'.Rest->F'.g=g->Q .normal f k):FX fH 12 0 prog (gY (mV (AA 8 (oZ f12)))) Q a u:=by
 have h:=G.x.fit;refine FX.bk 0 (FX.lp (OuL v0 sa ls cs ac lc cc kc ca cb xa xb g) (fun a _=>leftOf ls 12 a) ⟨0,F,E,eE _,T,hR,hc,c⟩ ?_);rintro a u ⟨n,F,E,D,T,hR,hc,c⟩;have r:=Ee (n:=ls) (E.at_ 12 _ rfl);refine FX.sq (FX.sq (FX.reg [0,1,2,3] ?_));refine FE.ow E fun a _ E=>?_;refine FE.bl E fun a _ E=>?_;refine FE.ln E fun a _ E=>?_
 by_cases d:n<ls
 ·have p:(n:Int)<(ls:Int):=ak;refine FE.ow (v:=.bool true) E fun a _ E=>FO.nil ?_;refine FX.cT E (FX.sk ?_);obtain⟨b,off,H,z,rfl,B,j⟩:=A.resolve_left ak;have q:0<=(n:Int)/\(n:Int)<(ls:Int):=ak;refine FX.sq (FX.bk 1 (FX.sq (FX.reg [0,1,2,3,4] ?_)));refine FE.bl E fun a _ E=>?_;refine FE.ow E fun a _ E=>?_;refine FE.DY (v:=.pointer (some (aa b (off+n)))) (fun w=>by go_simp) (fun w=>events_indexAt_slice (P:=prog) (w:=w) (es:=#[]) 79 ⟨b,off,none⟩ ls cs .i64 n aI q) E h rfl rfl rfl rfl rfl rfl fun a E=>?_;refine FE.EU (v:=.string (z n)) B E h rfl rfl rfl rfl rfl rfl (fun w e=>by have hc:=(j n d).2 w e;go_simp) (fun w e=>by have hc:=(j n d).2 w e;go_simp) (fun J=>.string _) fun a E=>?_;refine FE.ow E fun a _ E=>FO.nil ?_;refine aat G s y ak hR hc c E.to T fun a3 I m E T hR hc c=>?_;refine FX.reg [0,1,2] ?_;refine FE.ow E fun a _ E=>?_;refine FE.ar E fun a _ E=>?_;refine FE.ow E fun a _ E=>FO.nil ?_;rw[show(n:Int)+1=((n+1:Nat):Int) by simp]at E;refine⟨⟨n+1,m,E.to,d,T,hR,by rw[hc];simp,c⟩,?_⟩;rw[r,Ee (n:=ls) (E.at_ 12 _ rfl)];omega
 ·have p:¬(n:Int)<(ls:Int):=ak;refine FE.ow (v:=.bool false) E fun a _ E=>FO.nil ?_;exact FX.cF E (FX.ex 0 (o a u F n E.to T hR c))
theorem T0(G:Aq l)(A:ll<=bT)(z:lc<=bT)(C:ls<=1073741823)(w:sR al ll)(H:GP sa ls)(D:sR ac lc):
  jB fH prog 0 12 #[.slice al ll cl,.slice sa ls cs,.slice ac lc cc] u fun e N=>e=.returned (.bool true):=by
 have f:=G.x.fit;refine jB.Et 205 func12 fun a E=>?_;refine FX.sq (FX.reg [0] ?_);refine FE.ow E fun a _ E=>FO.nil ?_;refine FX.sq (FX.reg [0,1,2,3] ?_);refine FE.bl E fun a _ E=>?_;refine FE.cf E func28 G.k.kC aaa (Xb al ll cl) ((Xc G.k al ll cl A w).mono ?_);rintro e c ⟨g,rfl,j⟩;refine⟨_,rfl,fun a _ E=>?_⟩;refine FE.nw (v:=pt c.heap.size) E (c.alloc (.cells (fc 0 0 0 0 0 0 0 0 0) 35)) (hr:=fun d=>by go_simp;rfl) fun a _ E=>?_;obtain⟨kc,h⟩:∃b,b=c.heap.size:=⟨_,rfl⟩;rw[<-h]at E;refine FE.vo E (c.alloc (.cells (gO g) 35)) (FO.nil ?_) (hr:=fun d=>?_)
 rotate_left
 ·show(execOp _ _).run _ ((c.tp d).alloc (.cells (fc 0 0 0 0 0 0 0 0 0) 35))=Mq _ ((c.tp d).alloc (.cells (gO g) 35));have h:kc=(c.tp d).heap.size:=h;generalize c.tp d=y at*;subst h;clear j E;go_simp
 have p:=new1 (o:=(.cells (gO g) 35)) h;generalize c.alloc (.cells (gO g) 35)=u at*;clear h;have hI:=Cf.Is.Rf j;refine FX.sq (FX.reg [0,1,2] ?_);refine FE.lcf f E p fun a _ E=>?_;refine FE.cx E G.dep G.kA ((Wn f G.oA j p).mono ?_);rintro e u ⟨ca,xa,I,rfl,T⟩;refine⟨_,rfl,fun a _ E=>?_⟩;refine FE.ow E fun a _ E=>FO.nil ?_;refine FX.sq (FX.reg [0,1,2] ?_);refine FE.lcf f E T.cfg fun a _ E=>?_;refine FE.cx E G.dep G.kA ((Wo f G.oA j T).mono ?_);rintro e u ⟨cb,xb,K,rfl,T⟩;refine⟨_,rfl,fun a _ E=>?_⟩;refine FE.ow E fun a _ E=>FO.nil ?_
 replace E:Fa 205 a [(0,.slice al ll cl),(1,.slice sa ls cs),(2,.slice ac lc cc),(7,pt kc),(8,pt ca),(9,pt cb)]:=E.to
 refine FX.sq (FX.sq (FX.reg [0,1,2,3,4,5] ?_));refine FE.ow E fun a _ E=>?_;refine FE.ow (v:=.bool false) E fun a _ E=>?_
 iterate 2 refine FE.ow E fun a _ E=>?_
 refine FE.ow (v:=.bool false) E fun a _ E=>?_;refine FE.ow E fun a _ E=>FO.nil ?_;refine FX.cF E (FX.sk ?_);refine FX.sq (FX.reg [0,1,2] ?_);refine FE.ow E fun a _ E=>?_;refine FE.cx E G.dep G.kE ((Oh f G.oE hI T).mono ?_);rintro e u ⟨rfl,J,O,T⟩;refine⟨_,rfl,fun a _ E=>?_⟩;refine FE.ow E fun a _ E=>FO.nil ?_;refine FX.sq (FX.reg [0,1,2] ?_);refine FE.ow E fun a _ E=>?_;refine FE.cx E G.dep G.kE ((Oh f G.oE hI T.swap).mono ?_);rintro e u ⟨rfl,L,P,T⟩;refine⟨_,rfl,fun a _ E=>?_⟩;refine FE.ow E fun a _ E=>FO.nil ?_
 replace T:=T.swap
 refine FX.sq (FX.sq (FX.reg [0,1,2,3,4,5] ?_));refine FE.ow E fun a _ E=>?_;refine FE.ow (v:=.bool false) E fun a _ E=>?_
 iterate 2 refine FE.ow E fun a _ E=>?_
 refine FE.ow (v:=.bool false) E fun a _ E=>?_;refine FE.ow E fun a _ E=>FO.nil ?_;refine FX.cF E (FX.sk ?_);refine FX.sq (FX.sq (FX.reg [0] ?_));refine FE.ow E fun a _ E=>FO.nil ?_;refine Q4 G z D C H E.to ⟨_,_,_,_,T⟩ (Wh hI) rfl rfl fun a u F n E T hR r=>?_;refine FX.sq (FX.reg [0,1,2,3,4,5] ?_)
 iterate 3 refine FE.ow E fun a _ E=>?_
 refine FE.ow (v:=pt xa) E (hr:=fun d=>by have s:=T.xa d;go_simp) fun a _ E=>?_;refine FE.cx E G.dep G.kD ((Tl f G.oD T hR).mono ?_);rintro e u ⟨rfl,T⟩;refine⟨_,rfl,fun a _ E=>?_⟩;refine FE.ow E fun a _ E=>FO.nil ?_;have m:=hR.core.B;rw[r]at m;refine FX.sq (FX.reg [0,1,2,3,4,5,6,7,8,9,10,11,12,13,14] ?_)
 iterate 4 refine FE.ow E fun a _ E=>?_
 refine FE.ow (v:=pt xb) E (hr:=fun d=>by have s:=T.swap.xa d;go_simp) fun a _ E=>?_;refine FE.cx E G.dep G.kD ((Tl f G.oD T.swap hR).mono ?_);rintro e c ⟨rfl,q⟩;refine⟨_,rfl,fun a _ E=>?_⟩;refine FE.ow (v:=.bool true) E fun a _ E=>?_
 iterate 4 refine FE.ow E fun a _ E=>?_
 refine FE.lc E q.afq fun a _ E=>?_;refine FE.ow (v:=.bool true) E (hr:=fun d=>by have M:(((⟨F.B⟩:ByteArray).size:Nat):Int)=g.sz:=m;go_simp) fun a _ E=>?_;refine FE.ow E fun a _ E=>?_;refine FE.ow E fun a _ E=>FO.nil ?_;refine FX.rt ⟨rfl,E.defers,.bool true,?_,rfl⟩;simp[results,results12,go_sem,(ev (E.at_ 6 _ rfl))]
end
end
section
open Go.ChangeAt Go.ChangeShapes Go.Conc Go.Deep Go.RowKit Go.WideShapes
open Go.ConcR (Payload)
open Go.Proofs.Tryz
theorem Q5:ownKnob prog.godebug=none:=aI
theorem Jk:laidOutB prog=true:=aI
theorem Wu{H:Type}(d:DataW H):1<=Rows.uptoBulk d:=by
 cases d with
 |lit l=>cases l<;>simp[Rows.uptoBulk]
 |nil=>simp[Rows.uptoBulk]
 |ptr d=>simp[Rows.uptoBulk]
 |slice a spare=>simp[Rows.uptoBulk]
 |agg parts=>simp[Rows.uptoBulk]
 |iface t d=>simp[Rows.uptoBulk]
 |map b=>simp[Rows.uptoBulk]
 |held h=>simp[Rows.uptoBulk]
theorem Wt{H:Type}(l:List (DataW H)):l.length<=Rows.uptoBulkAll l:=by
 induction l with
 |nil=>simp[Rows.uptoBulkAll]
 |cons x r a=>have:=Wu x;simp only[Rows.uptoBulkAll,eD];omega
theorem V5{z}(h:(Lit.int .i64 z).wf=true):oV z:=by simp[Lit.wf,IntKind.min,IntKind.max,IntKind.signed,IntKind.bits]at h;omega
theorem CW(b off i):(⟨b,off,none⟩:eV).add i=⟨b,off+i,none⟩:=by
 unfold Addr.add;split
 ·rename_i e;subst e;rfl
 ·rfl
theorem ltP{w:an}{b off:Nat}{v:au}(h:w.cell? (aa b off)=some v):b<w.heap.size:=by refine oy fun a=>?_;have:w.heap[b]? =none:=qJ ak;simp[World.cell?,this]at h
section
variable {H:Type} {enc:aK×au->H} {w:an} {base:Nat} {spare:Nat->Bool} {held:Bool}
theorem Rw{fuel:Nat}{a:Option eV}{len cap:Nat}{x:DataW H×List MemPlace}
  (h:DataW.trod enc prog w base spare held fuel 25 [.slice a len cap]=some x):len<=bT/\(len=0\/∃b off,a=some ⟨b,off,none⟩/\b<w.heap.size/\∀i,i<len->∃z,oV z/\w.cell? (aa b (off+i))=some (aj z)):=by
 rcases open_ints underlying25 underlying3 (show prog.cellsOf 3=1 by kernel_rfl) h with⟨c,_⟩|⟨f,s,o,d,c,_,q,hm,m,_,e,l⟩
 ·simp at c;obtain⟨rfl,rfl,rfl⟩:=c;exact⟨eE _,.inl rfl⟩
 ·simp at c;obtain⟨rfl,rfl,rfl⟩:=c;refine⟨ak,?_⟩
  by_cases h0:len=0
  ·exact .inl h0
  right;have r:len<=d.length:=by rw[m];split<;>omega
  obtain⟨b,off,n⟩:=f
  have k:n=none:=by have:=e 0 ak;simp only[Addr.add,cD]at this;simpa using Vi this
  subst k
  have g:b<w.heap.size:=by have:=e 0 ak;rw[CW]at this;exact ltP this
  refine⟨b,off,rfl,g,fun i p=>⟨d.getD i 0,?_,?_⟩⟩
  ·have j:d.getD i 0∈d:=by
    simp[List.getD,show i<d.length by omega]
   exact V5 (l _ j)
  ·have:=e i ak
   rwa [CW]at this
theorem adH{fuel:Nat}{a:Option eV}{len cap:Nat}{x:DataW H×List MemPlace}(k:Rows.uptoBulk x.1<=1048576)
  (h:DataW.trod enc prog w base spare held fuel 79 [.slice a len cap]=some x):len<=1048576/\(len=0\/∃b off,a=some ⟨b,off,none⟩/\b<w.heap.size/\∀i,i<len->∃z:ByteArray,z.size<=bT/\w.cell? (aa b (off+i))=some (.string z)):=by
 rcases open_slice underlying79 h with⟨c,_⟩|⟨g,J,C,m,n,D,B,c,_,F,hm,t,y,q⟩
 ·simp at c;obtain⟨rfl,rfl,rfl⟩:=c;exact⟨eE _,.inl rfl⟩
 ·simp at c;obtain⟨rfl,rfl,rfl⟩:=c
  have r:len<=1048576:=by rw[y]at k;simp only[Rows.uptoBulk]at k;have:=Wt ((List.range len).map D);simp only[pV,List.length_range]at this;omega
  refine⟨r,?_⟩
  by_cases h0:len=0
  ·exact .inl h0
  right;have G:len<=m:=by rw[t];split<;>omega
  rw[show prog.cellsOf 9=1 by kernel_rfl]at q
  have o:∀i,i<len->∃z:ByteArray,z.size<=bT/\w.cell? ((g.add (i*1)).add 0)=some (.string z):=fun i l=>by obtain⟨E,f,d⟩:=q i ak;obtain⟨s,c,I,u⟩:=DataW.trod_string underlying9 d;have j:=(World.cells?_some f).2.2 0 ak;rw[c]at j;exact⟨s,u,j⟩
  obtain⟨b,off,A⟩:=g
  have v:A=none:=by obtain⟨z,_,e⟩:=o 0 ak;simp only[sC,Addr.add,cD]at e;simpa using Vi e
  subst v
  have p:∀i,i<len->∃z:ByteArray,z.size<=bT/\w.cell? (aa b (off+i))=some (.string z):=fun i l=>by obtain⟨z,f,d⟩:=o i l;rw[CW,CW]at d;exact⟨z,f,by simpa using d⟩
  exact⟨b,off,rfl,by obtain⟨z,_,e⟩:=p 0 ak;exact ltP e,p⟩
end
section
variable (W:an)
theorem Sa{a:Option eV}{len:Nat}(h:len=0\/∃b off,a=some ⟨b,off,none⟩/\b<W.heap.size/\∀i,i<len->∃z,oV z/\W.cell? (aa b (off+i))=some (aj z)):@sR (rB prog mZ tD 1 (fun b=>W.heap[b]?)) a len:=by
 rcases h with h|⟨b,off,rfl,d,f⟩
 ·exact .inl h
 ·classical
  refine .inr ⟨b,off,W.heap[b],fun i=>if c:i<len then Ue (f i c)else 0,rfl,cw d,fun i c=>?_⟩;have e:=Uf (f i c);simp only[qW c];exact⟨e.1,fun w g=>(fC (g.trans (cw d).symm)).trans e.2⟩
theorem aaO{a:Option eV}{len:Nat}(h:len=0\/∃b off,a=some ⟨b,off,none⟩/\b<W.heap.size/\∀i,i<len->∃z:ByteArray,z.size<=bT/\W.cell? (aa b (off+i))=some (.string z)):@GP (rB prog mZ tD 1 (fun b=>W.heap[b]?)) a len:=by
 rcases h with h|⟨b,off,rfl,d,f⟩
 ·exact .inl h
 ·classical
  refine .inr ⟨b,off,W.heap[b],fun i=>if c:i<len then Ue (f i c)else⟨#[]⟩,rfl,cw d,fun i c=>?_⟩;have e:=Uf (f i c);simp only[qW c];exact⟨e.1,fun w g=>(fC (g.trans (cw d).symm)).trans e.2⟩
end
theorem Zl(t:Nat->Option Obj):@Aq (rB prog mZ tD 1 t) mZ:=by
 letI:aA:=rB prog mZ tD 1 t
 have o:∀f,mZ.contains f=true->aA.ok f:=fun f a=>((AF 1 t).ok f).2 a;exact⟨⟨AF 1 t,.inl (o _ aI),.inl (o _ aI),.inl (o _ aI)⟩,Zk 1 t,rfl,o _ aI,o _ aI,o _ aI,o _ aI,o _ aI,o _ aI,.inl (o _ aI),.inl (o _ aI),.inl (o _ aI),.inl (o _ aI),.inl (o _ aI),.inl (o _ aI),.inr aI⟩
theorem S9[aA](v0 v1 v2 ρ j v)(h:(Frame.enter prog 12 #[v0,v1,v2] .normal).tmps[j]? =some v)(b:j∉fH 12):VR ρ v v:=
 Dx func12 (body:=oZ f12) aI (fun i v h a ρ=>by
  match i,a with
  |0,a=>exact absurd cq a
  |1,a=>exact absurd cq a
  |2,a=>exact absurd cq a
  |n+3,_=>simp at h) ρ j v h b
theorem T8(os:Os)(aS:os.Started)(H:Type)(enc:aK×au->H)(F:Stop.Interp):
  ReturnsInLeavingWide {} checked os 12 .any ((Rows.OpenSpec.upto Rows.piecedSpec).pre6 enc prog f12 Rows.piecedUptoRow.domain false) (((Rows.OpenSpec.upto Rows.piecedSpec).at F).post enc prog f12 false true false false):=by
 refine aad (C:=checked) (s:=Rows.OpenSpec.upto Rows.piecedSpec) (k:=Rows.uptoSmall) rfl Q5 aS func12
  (OpenSpec.witness (enc:=enc) (C:=checked) (s:=Rows.OpenSpec.upto Rows.piecedSpec) (k:=Rows.uptoSmall) rfl false ⟨#[],#[.slice none 0 0,.slice none 0 0,.slice none 0 0],[]⟩ 8 aI aI aI
   (x:=([.nil,.nil,.nil],[],[])) aI rfl aI) ?_
 intro W base args M gs aZ aj y r _ T _;have O:=r;obtain⟨p,q,n,N,rfl,bn,bp⟩:=r;have l:DataW.TrodAll enc prog W 0 (fun _=>true) true f12.params.toList args.toList M p:=n;have f:∀(j:Nat) t v,f12.params[j]? =some t->args[j]? =some v->Value.okWide prog W .any base t v:=y;rw[params12]at l f;obtain⟨E,bz,d0,bf,p0,q0,bl,rfl,rfl,h0,r0⟩:=trodAll_cons l;obtain⟨G,bA,d1,bg,D,q1,rfl,rfl,rfl,g,r1⟩:=trodAll_cons r0;obtain⟨I,bB,d2,bk,p2,q2,rfl,rfl,rfl,i,r2⟩:=trodAll_cons r1;obtain⟨rfl,rfl,rfl⟩:=trodAll_nil r2;obtain rfl:args=#[E,G,I]:=by cases args;simp_all
 obtain⟨rfl,rfl⟩:=trodVars_none N
 have Q:Rows.uptoBulk d1<=1048576:=by have h:=mO T;simp only[xK,Rows.uptoBulkAll]at h;omega
 obtain⟨a0,ay,J,rfl⟩:=okWide_slice underlying25 (f 0 25 E rfl rfl);obtain⟨a1,az,K,rfl⟩:=okWide_slice underlying79 (f 1 79 G rfl rfl);obtain⟨a2,aC,L,rfl⟩:=okWide_slice underlying25 (f 2 25 I rfl rfl);have z:=h0;have A:=g;have B:=i;have aE:∀x∈p0,x.block<W.heap.size:=by obtain⟨m,hm⟩:=z;exact LC m _ _ _ hm
 have aF:∀x∈D,x.block<W.heap.size:=by obtain⟨m,hm⟩:=A;exact LC m _ _ _ hm
 have aG:∀x∈p2,x.block<W.heap.size:=by obtain⟨m,hm⟩:=B;exact LC m _ _ _ hm
 obtain⟨V,uZ⟩:=(by obtain⟨fuel,a⟩:=h0;exact Rw (cap:=J) (by simpa[Aa]using a):ay<=bT/\_);obtain⟨DT,af⟩:=(by obtain⟨fuel,a⟩:=g;exact adH (cap:=K) (x:=(d1,D)) Q (by simpa[Aa]using a):az<=1048576/\_);obtain⟨X,ah⟩:=(by obtain⟨fuel,a⟩:=i;exact Rw (cap:=L) (by simpa[Aa]using a):aC<=bT/\_);clear n y
 letI:aA:=rB prog mZ tD 1 (fun b=>W.heap[b]?)
 letI:Payload:=⟨0⟩
 have S:prog.globals.size<=W.heap.size:=by obtain⟨o,_,Y,_⟩:=aj.2 prog.globals.size (aV _) (mO aI);exact mg (aP.1 Y).1
 refine aaB rfl (R:=fun e u'=>e=.returned (.bool true)) (fun ρ j v=>S9 _ _ _ ρ j v) func12 (c:=oZ f12) aI rfl aI (.inr aI) S (fun b o P=>P) (T0 (Zl _) V X ak (Sa W uZ) (aaO W af) (Sa W ah)) (fun e u h=>⟨_,h⟩) ?_;intro v u' w' hv U aq Z aa av;have d:aB W w':=⟨Z,av,aa,aq,U⟩;cases hv;exact⟨_,_,_,[],_,[],O,trodAll_mk1 (shut_bool underlying4 _),(MI (Below.trod Jk aI (mO aI) z d aE) (MI (Below.trod Jk aI (mO aI) A d aF) (MI (Below.trod Jk aI (mO aI) B d aG) trodAll_mk0))),rfl,d.frame _,fun h=>by cases h⟩
theorem pieced_holds:Rows.PiecedUptoSaid:=
 ZP 12 f12 rfl rfl rfl rfl rfl rfl rfl ⟨rfl,rfl,rfl,rfl,rfl⟩ rfl rfl rfl rfl rfl aI func12 aI
  (mO aI) (by unfold Func.isWrapper;first|(rw[aM (by decide+kernel)];kernel_rfl)|(rw[aD (by decide+kernel)];exact⟨rfl,rfl⟩))
  (fun os b H enc _ F=>T8 os b H enc F)
end
end Go.Proofs.YtpobhljcainmdaaGreat
