/- Parts of the proof. -/
import Derived.BigQuiet
import Derived.Conc.EventLaws
import Derived.Deep.AppendLies
import Derived.Deep.DrawnRows
import Derived.Deep.Draws
import Derived.Deep.QuietTactic
import Derived.Defers
import Derived.Laws.MakeOwn
import Derived.Lib.AppendStr
import Derived.Lib.BufferWrite
import Derived.Lib.Strings
import Derived.Lib.UnsafeStr
import Derived.Lib.Walk
import Derived.LoopIn
import Derived.LoopNIn
import Derived.Maps.OwnSet
import Derived.RangeFuncBound
import Derived.RangeFuncCalls
import Derived.Recover
import Derived.Shelf.Abstract
import Derived.Shelf.RegionOpen
import Derived.Tactics2
import Derived.TacticsInMore
import Derived.Test.YtpobhljcainmdaaGreatJ07
set_option maxRecDepth 100000
set_option maxHeartbeats 8000000
set_option linter.all false
namespace Go.Proofs.YtpobhljcainmdaaGreat
open Go.World renaming grownBy_alloc->oM,cell?->eO,cell?_setCell_same'->Gt,frozen?->oK,cell?_of_block->fC,cell?_setCell_far->Mt,frozen?_setCell->Mu,cell?_setCell_other->Vg,setCell->fD,cell?_setCells_out->Vh
open Go renaming World->an,Value->au,maxLen->bT,bodyPost_ret->fX,heap_alloc_new->bW,below_drewN->ig,run_convert_bytes_back->Vo,run_underlying->MC,wpS_region->GK,callsIn_wide->fT,Frame->aJ,leaves_cons->MA,bodyPost->Gv,Ending->jP,Addr->eV
open _root_.ByteArray renaming empty->ny
open Go.Conc renaming stepG_region_end->cy,stepG_seq->bP
open Go.Instr renaming makeFunc->rV,typeAssert->BO,lookup->BL
open Go.ConcR renaming wgBlock->zK,Payload->Ch
open Go.Ending renaming returned->xE
open Go.Lib renaming size_eq->zS,byteCells->kN
open Go.Region renaming wanted->cL
open Go.Builtin renaming append_->nx
open Go.Conc.LoneTo renaming goes->Gl,step->UM
open _root_.UInt8 renaming toNat_ofNat'->Va,ofNat->zo
open Go.Exit renaming thenS->FT,normal->LD
open Go.Maps renaming keyOf_int_mk->UP,int_keyed->Cb,setOf->zV
open Go.IntKind renaming wrap_i64->Uy,signed->Uw,bits->Uv,i64->gU
open Go.Frame renaming finish_at->xG
open _root_.Array renaming replicate->pR,getD->vG
open _root_.List renaming range->dM
open Go.Fence renaming wide->jQ
section
open Go.Conc Go.Conc.Lib Go.ConcN.Gen Go.ConcR.Gen Go.RowKit
open Go.ConcN (ShN WgLive Has)
open Go.ConcR (Payload stA smA WgAt)
open Go.Proofs.Tryz
section
variable [aA] {l:List FuncId} {C:Nat->Nat->Prop} {R:Nat->jP->an->Prop} {cl:List (Option Nat)} {xb sb n:Nat} {u u1 w w1:an} {cs:List aJ} {fr:aJ} {gs jI:Array Goroutine} {t:Trace} {q:Nat->Nat} {Shun:Loc->Prop} {S:Nat->Prop} {ρ:Ren} {x:Obj} {sl:Option (Nat×Nat)}
def MR(e:Func)(C:Nat->Nat->Prop)(R:Nat->jP->an->Prop)(cl:List (Option Nat))(u:an)(xb:Nat)(cs:List aJ)(f:aJ)(d:List aJ)(g:an):Prop:=
 d=cs/\∃a c b D,f=wtF e xb a c b D [] (.tuple #[])/\After C R cl u g xb a c b D
theorem afs{X eM c d a D}(hS:aA.ok 96)(r:aA.known 61)(s:X xb)(g:X c)(m:X d)(j:X a)(k:X D):XF (dL X) (wtF eM xb c d a D [] (.tuple #[])):=by
 haveI:aW:=bE []
 have f:VR (dL X) undef undef:=rQ _;have y:VR (dL X) (.tuple #[]) (.tuple #[]):=f
 have p:VR (dL X) (.func (.func 96) #[] #[pt a]) (.func (.func 96) #[] #[pt a]):=.func (.func _ hS) rfl (fun i v e hv=>by simp at hv) rfl fun i v e h b=>by
  rw[h]at b;cases b
  match i,h with
  |0,h=>cases h;exact Bu j
  |i+1,h=>simp at h
 refine⟨⟨rfl,fun i v e h b=>?_⟩,.cons ⟨.collected ⟨rfl,k⟩,rfl,fun i v e h=>by simp at h⟩ .nil,rfl,r,.run⟩;rw[h]at b;cases b;change((jK xb c d a).setIfInBounds 10 (.tuple #[]))[i]? =some v at h
 have o:∀v∈(jK xb c d a).setIfInBounds 10 (.tuple #[]),VR (dL X) v v:=by
  intro v hv;simp only[jK,qR,qS,qT,gK,mL,BY,or_false]at hv;rcases hv with rfl|rfl|rfl|rfl|rfl|rfl|rfl|rfl|rfl|rfl|rfl|rfl|rfl|rfl|rfl|rfl|rfl|rfl|rfl|rfl|rfl|rfl|rfl
  all_goals first|exact f|exact Bu s|exact Bu g|exact Bu m|exact p
 exact o v (lC h)
def atA(c:Func)(xb a b:Nat):aJ:=dK.at ⟨#[pt xb,pt a,pt b,undef,undef,undef,undef,undef,undef,undef,undef,undef,undef,undef,undef,undef,undef,undef,undef,undef,undef,undef,undef],[]⟩ [.code (za c)]
theorem Enters.ms[aW][Ch](E:Enters l C R u cl xb sb n)(s:∀b,b<u.heap.size->u1.heap[b]? =u.heap[b]?)(Y:u1.heap.size=u.heap.size+1)(V:u1.heap[u.heap.size]? =some (.cells #[pt xb] 36))(Z:u1.os=u.os)(o:eY prog Shun S fr cs u1 ρ gs w t q)(J:w1.heap=w.heap.push x)(ah:w1.os=w.os)(af:WgAt link.tWg w.heap.size w1 0 0):
  MS prog link.tWg w.heap.size (CK f61 C (Kb C cl S ρ) w1 cl xb sb u.heap.size w.heap.size n cs) (Qs C R cl) n 0 .opn (fun b=>ρ b b/\¬S b) (G (atA f61 xb u.heap.size w.heap.size) cs) w1:=by
 have av:w1.heap.size=w.heap.size+1:=by rw[J];simp
 have W:∀b,b<w.heap.size->w1.heap[b]? =w.heap[b]? :=fun b d=>by rw[J,eN,aD ak]
 have K:∀b,ρ b b->b<w.heap.size:=fun b d=>(o.world.lt b b d).2
 have k:∀{a:eV} {v:au},u1.cell? a=some v->(ρ a.block a.block/\¬S a.block)/\w1.cell? a=some v:=fun{a v} h=>by obtain⟨m,M,p⟩:=o.cell h;exact⟨⟨m,M⟩,(cell_of (W _ (K _ m))).trans p⟩
 have y:∀{a:eV} {v:au},u.cell? a=some v->u1.cell? a=some v:=fun{a v} h=>(cell_of (s _ (yG h))).trans h;have H:u1.cell? (aa u.heap.size 0)=some (pt xb):=by simp[eO,V]
 obtain⟨ay,N,X⟩:=E.dA;obtain⟨s1,s2,_,_⟩:=o.heap ((s _ (aP.1 N).1).trans N) X
 refine wU (.inl rfl) (Stop:=fun i g e=>∃f D L v,g=nT f61 f96 xb sb u.heap.size w.heap.size f D L n 0 v cs/\eJ f61 xb sb u.heap.size w.heap.size f D L n cl .ready i e/\iI C (Kb C cl S ρ) w1 cl 0 i e/\w1.heap.size<=f/\w1.heap.size<=D/\w1.heap.size<=L)
  (aaQ (cl:=cl) (n:=n) (k H).1 (k (y E.sl)).1 ⟨s1,s2⟩ (fun h=>sB _ (K _ h.1)) (fun b d=>by have:=K b d.1;omega) ⟨_,_,af⟩ (k H).2 (k (y E.sl)).2 (fun j v I=>(k (y (E.at_ j v I))).2) E.len fun f D L i e v m M p Q T U z A B F=>.stop fun az r=>⟨f,D,L,v,rfl,F.rel r,?_,z,A,B⟩) fun i g e h=>?_
 ·refine iI.rel (w:=e) ?_ r;refine⟨T,U,Q,fun j c _ I b d=>?_,fun b d=>⟨m b d.1,p b d.1⟩⟩;obtain⟨_,O,P,_⟩:=E.own s o I d;exact⟨m b ⟨O,P⟩,p b ⟨O,P⟩⟩
 ·obtain⟨f,D,L,v,rfl,F,hF,z,A,B⟩:=h e (.refl ..);have:=Jt (cs0:=cs) (E.setup s Y H Z o J ah) z A B n 0 v i e ak F hF;simpa[sat]using this
theorem Enters.tg[aW][Ch](E:Enters l C R u cl xb sb n)(r:∀b,b<u.heap.size->u1.heap[b]? =u.heap[b]?)(U:u1.heap.size=u.heap.size+1)(p:u1.heap[u.heap.size]? =some (.cells #[pt xb] 36))(V:u1.os=u.os)(c:eY prog Shun S fr cs u1 ρ gs w t q)(s:w1.heap=w.heap.push x)(v:gC w w1)(W:WgAt link.tWg w.heap.size w1 0 0)
  {a} (I:jI[0]? =some a) (T:jI.size=gs.size) (G:Leavers prog t jI q)
  (N:MS prog link.tWg w.heap.size (CK f61 C (Kb C cl S ρ) w1 cl xb sb u.heap.size w.heap.size n cs) (Qs C R cl) n 0 .opn (fun b=>ρ b b/\¬S b) a w1):
  CE prog (MR f61 C R cl u xb cs) ρ Shun w jI w1 sl t:=by
 refine Zm c s v W I T G E.small N fun m X Y j g P H J K O Z Q=>?_;obtain⟨hm,d,D,L,rfl,F,hF,y,z⟩:=P;obtain⟨h,A,B⟩:=E.over r U p V c s v.os hm F hF y z H J K O Q
 have M:ρ.le (dL fun b=>Ob C R cl S ρ m g j d D b\/S b\/b=w.heap.size):=fun a b k=>by obtain rfl:=c.same _ _ k;exact⟨rfl,h a k⟩
 have own:∀{b:Nat} {o:Obj},u1.heap[b]? =some o->o≠bG->Ob C R cl S ρ m g j d D b\/S b\/b=w.heap.size:=fun f i=>h _ (c.heap f i).1;refine⟨_,cs,Ob C R cl S ρ m g j d D,rfl,⟨rfl,_,_,d,D,rfl,B⟩,A,afs E.okS E.kn ?_ (own p (by intro e;cases e)) (.inr (.inr rfl)) (.inl (.inr (.inl rfl))) (.inl (.inr (.inr (.inl rfl)))),h,c.below.mono M⟩;obtain⟨o,f,i⟩:=og E.sl;exact own ((r _ (aP.1 f).1).trans f) i
end
def pJ(fn:Func):Array Oper:=match fn.body with|some (.seq (.region _ x _) _)=>x|_=>#[]
def nY(fn:Func):Array Oper:=match fn.body with|some (.seq _ (.seq (.region _ x _) _))=>x|_=>#[]
section
variable [aA] {l:List FuncId} {C:Nat->Nat->Prop} {R:Nat->jP->an->Prop} {cl:List (Option Nat)} {xb sb n:Nat} {u:an} {cs:List aJ}
theorem K7{Q k}(h:∀id a u,¬Q (.exit id) a u):qg Q k:=fun id ⟨a,u,b⟩=>absurd b (h id a u)
def jJ(xb:Nat)(x y:au):Act:=⟨#[pt xb,x,y,undef,undef,undef,undef,undef,undef,undef,undef,undef,undef,undef,undef,undef,undef,undef,undef,undef,undef,undef,undef],[]⟩
theorem XU(xb):Frame.enter prog 61 #[pt xb] .normal=dK.at (jJ xb undef undef) [.code (.seq (.region 0 (pJ f61) false) (.seq (.region 1 (nY f61) false) (za f61)))]:=by
 rw[enter_at (c:=.seq (.region 0 (pJ f61) false) (.seq (.region 1 (nY f61) false) (za f61))) _ func61 rfl];generalize (Code.seq _ _)=c;have a:f61.ntmps=23:=rfl;rw[a]
 walk_nrm
 rfl
theorem Ws(w):(execOp (jJ xb undef undef).eval ((pJ f61).getD 0 default)).run prog w=.ok (.value (pt w.heap.size)) {w with heap:=w.heap.push (.cells #[pt xb] 36)}:=by simp only[pJ,f61];unfold execOp;simp[go_sem,jJ,Act.eval]
theorem E8(x w):(execOp (jJ xb x undef).eval ((nY f61).getD 0 default)).run prog w=.ok (.value (pt w.heap.size)) {w with heap:=w.heap.push (zK link.tWg 0 0)}:=by simp;unfold execOp;simp[go_sem,jJ,Act.eval];rfl
theorem E7(x w):listed prog dK.fn (jJ xb x undef) ((nY f61).getD 0 default) w=#[]:=by
 have:(execOp (jJ xb x undef).eval ((nY f61).getD 0 default)).events prog w #[]=#[]:=by simp only[nY,f61];unfold execOp;simp[go_sem,jJ,Act.eval]
 unfold listed;rw[this];exact seen_none _ _
theorem X9[Ch](E:Enters l C R u cl xb sb n):Reach prog (MR f61 C R cl u xb cs) (Frame.enter prog 61 #[pt xb] .normal) cs u:=by
 haveI:aW:=bE []
 have a1:(pJ f61)[0]? =some ((pJ f61).getD 0 default):=rfl;have z:cL ((pJ f61).getD 0 default) (yielded (pJ f61) (jJ xb undef undef).tmps)=true:=rfl;have a3:okB prog l ((pJ f61).getD 0 default).op=true:=rfl;have A:dM (pJ f61).size=[0]:=rfl;have B:∀v,(jJ xb undef undef).put ((pJ f61).getD 0 default).dst v=jJ xb v undef:=fun v=>rfl;have b1:(nY f61)[0]? =some ((nY f61).getD 0 default):=rfl;have D:∀v,cL ((nY f61).getD 0 default) (yielded (nY f61) (jJ xb v undef).tmps)=true:=fun v=>rfl;have F:dM (nY f61).size=[0]:=rfl;have H:∀v c,(jJ xb v undef).put ((nY f61).getD 0 default).dst c=jJ xb v c:=fun v c=>rfl;have K:=fun w=>Ws (xb:=xb) w;have M:=fun x w=>E8 (xb:=xb) x w;have L:=fun x w=>E7 (xb:=xb) x w;have I:∀(y:Nat),dK.at (jJ xb (pt u.heap.size) (pt y)) [.code (za f61)]=atA f61 xb u.heap.size y:=fun y=>rfl;rw[XU];generalize pJ f61=Z at*;generalize nY f61=p at*;generalize Y:za f61=rest at*;refine .at_ (fun _=>bP) (.at_ (fun _=>stepG_region) ?_);rw[A];refine Reach.bind ((OX.value (Q:=fun e i P=>e=.normal/\i=jJ xb (pt u.heap.size) undef/\P={u with heap:=u.heap.push (.cells #[pt xb] 36)}) (u1:={u with heap:=u.heap.push (.cells #[pt xb] 36)}) (v:=pt u.heap.size) E.fit a1 z a3 (fun T=>K (u.tp T)) (OX.nil ⟨rfl,B _,rfl⟩)) dK _ cs trivial (K7 fun _ _ _ h=>by cases h.1)) ?_;rintro V a u1 ⟨e,i,⟨rfl,rfl,rfl⟩,rfl,rfl⟩;refine .at_ (fun _=>bP) (.at_ (fun _=>stepG_region) ?_);rw[F];refine Reach.P0 fun U S s gs w t q j _=>?_
 have N:stepG prog true (G (dK.at (jJ xb (pt u.heap.size) undef) [.inRegion p [0],.code rest]) a) w=.go (G (dK.at (jJ xb (pt u.heap.size) (pt w.heap.size)) [.inRegion p [],.code rest]) a) {w with heap:=w.heap.push (zK link.tWg 0 0)}:=by rw[stepG_value (v:=pt w.heap.size) b1 (D _) (by simp[dK]) (M _ w),L,H]
 refine⟨_,_,_,N,fun W sl h0 O J=>?_⟩;have m:∀b,b<u.heap.size->(u.heap.push (.cells #[pt xb] 36))[b]? =u.heap[b]? :=fun b X=>by rw[eN,aD ak]
 have o:WgAt link.tWg w.heap.size {w with heap:=w.heap.push (zK link.tWg 0 0)} 0 0:=by show(w.heap.push _)[w.heap.size]? =_;simp
 have k:=E.ms (u1:={u with heap:=u.heap.push (.cells #[pt xb] 36)}) (w1:={w with heap:=w.heap.push (zK link.tWg 0 0)}) m aq aq rfl j rfl rfl o;refine E.tg (u1:={u with heap:=u.heap.push (.cells #[pt xb] 36)}) (w1:={w with heap:=w.heap.push (zK link.tWg 0 0)}) m aq aq rfl j rfl ⟨rfl,rfl,rfl,aq⟩ o h0 O J ?_;rw[<-I]at k;refine wU (.inl rfl) (Stop:=fun f g d=>f=(fun b=>s b b/\¬S b)/\g=G (dK.at (jJ xb (pt u.heap.size) (pt w.heap.size)) [.code rest]) a/\Rel link.tWg w.heap.size (fun b=>s b b/\¬S b) {w with heap:=w.heap.push (zK link.tWg 0 0)} d) (.regionEnd (.stop fun af r=>⟨rfl,rfl,r⟩)) fun f g d h=>?_;obtain⟨rfl,rfl,r⟩:=h d (.refl ..);exact k.rely r
end
end
section
open Go.Conc Go.Conc.Lib Go.ConcN.Gen Go.ConcR.Gen Go.RowKit
open Go.ConcR (Payload)
open Go.Proofs.Tryz
section
variable [aA] {l:List FuncId} {C:Nat->Nat->Prop} {R:Nat->jP->an->Prop} {cl:List (Option Nat)} {xb sb n:Nat} {u:an} {cs:List aJ}
def tlF(d:Func)(xb a c b D:Nat):aJ:=dK.at ⟨(jK xb a c b).setIfInBounds 10 (.tuple #[]),[{target:=.collected D,args:=#[]}]⟩ [.code (vE d)]
theorem WG[Ch](E:Enters l C R u cl xb sb n){R'}(k:dY prog l false (vE f61)=true)(hR:∀e u i,R' e u->R' e (an.tp u i))(m:∀e u,R' e u->∃v,e=.returned v)
  (h:∀d a c b D,After C R cl u d xb a c b D->∀i,∃e g f,R' e g/\Comes prog (lone (tlF f61 xb a c b D) [bot prog] (d.tp i)) (lone f [bot prog] g) e/\f.fn=61/\f.leaving prog g e):
  eI prog 61 #[pt xb] u R':=fun cs=>by
 letI:aW:=bE []
 refine(X9 (cs:=cs) E).bind ?_;rintro p o d ⟨rfl,a,c,b,D,rfl,j⟩;refine .at_ (k':=[.code (vE f61)]) (fun _=>cy) ?_;exact Reach.left (l:=l) E.fit (fun q=>.cons (.code k) .nil) rfl hR m (h d a c b D j)
end
end
section
open Go.RowKit
theorem bq(w:an)(n:Nat)(o:Obj):(w.drewN n).alloc o=(w.alloc o).drewN n:=rfl
theorem bg(w:an)(n:Nat)(a:eV)(v:au):(w.drewN n).setCell a v=(w.setCell a v).drewN n:=rfl
theorem RK{k a b}(h:a=b):xE (.int k a)=.returned (.int k b):=by rw[h]
abbrev fc(sz cl e b d rt a f c:Int):Array au:=#[aj sz,aj cl,aj e,aj b,aj d,aj rt,aj a,aj f,aj c]
abbrev ji(d:Int)(c:ByteArray)(b fl a of ln:Int)(dt:ByteArray)(er:Int):Array au:=#[aj d,.string c,aj b,aj fl,aj a,aj of,aj ln,.string dt,aj er]
abbrev eU(m:aQ):Array au:=ji m.wh m.nm m.kd m.fl m.ck m.of m.ln m.dt m.er
abbrev fW:Array au:=ji 0 ⟨#[]⟩ 0 0 0 0 0 ⟨#[]⟩ 0
abbrev qC(s:ByteArray):Array au:=ji 3 ⟨#[]⟩ (bt s 1) (bt s 2) (two s 3) (two s 5) (two s 7) ⟨#[]⟩ 0
end
section
open Go.Proofs.Tryz
open Go.RowKit
theorem JH(b:UInt8)(w):
  bz 237 #[.int .u8 (b.toNat:Int)] w (.string ⟨#[b]⟩):=by
 have d:=Vo (w.alloc (.cells #[.int .u8 (b.toNat:Int)] 5)) 158 9 5 ⟨w.heap.size,0,none⟩ 1 [b] underlying158 underlying5 underlying9
 have a:∀(j:Nat) (c:j<[b].length),(w.alloc (.cells #[.int .u8 (b.toNat:Int)] 5)).cell? ((⟨w.heap.size,0,none⟩:eV).add j)=some (.int .u8 (([b]:List UInt8)[j].toNat:Int)):=by
  intro j c
  match j,c with
  |0,_=>simp;simp[Addr.add,go_sem]
 have e:(convert 158 9 (.slice (some (aa w.heap.size 0)) 1 1)).run prog (w.alloc (.cells #[.int .u8 (b.toNat:Int)] 5))=.ok (.string ⟨#[b]⟩) (w.alloc (.cells #[.int .u8 (b.toNat:Int)] 5)):=d a;clear d a;go_enter func237,ntmps237;go_wp2;go_ret;exact⟨rfl,aR⟩
theorem aef(s w)(c:s.size<=bT)(a:1<s.size):
  Calls prog 273 #[.string s] w fun e d=>e=.returned (aj (two s 0))/\∃n,d=w.drewN n:=by
 unfold bT at c;have b:0<s.size:=ak;have f:=uN s 0 b;have g:=uN s 1 a;have h:=nR s 0;have i:=nR s 1;go_enter func273,ntmps273;go_wp2
 go_quiet (fail)
 go_wp2;go_ret;refine⟨RK ?_,_,rfl⟩;simp only[two]
 go_light
 rw[fo];omega
def AG(m:aQ):Bool:=if m.kd=1\/m.kd=3\/m.kd=4 then decide (m.fl<=1)else decide (m.fl=0)
def Bc(m:aQ):Bool:=if m.kd=2\/m.kd=5 then decide (m.of=0/\m.ln=0)else decide (m.ln≠0/\m.of %4=0/\m.ln %4=0)
theorem Il(m w):
  bz 274 #[.agg (eU m)] w (.bool (AG m)):=by
 obtain⟨g,f,e,d,a,of,ln,b,c⟩:=m;go_enter func274,ntmps274;go_wp2
 all_goals (go_ret;refine⟨?_,aR⟩;go_light;simp_all[AG];try rfl)
theorem Rv(m w)(h0:0<=m.of)(a:0<=m.ln):
  bz 275 #[.agg (eU m)] w (.bool (Bc m)):=by
 obtain⟨h,g,f,e,b,of,ln,c,d⟩:=m;dsimp only at h0 a;go_enter func275,ntmps275;go_wp2
 all_goals (go_ret;refine⟨?_,aR⟩;go_light;simp_all[Bc];try(first|omega|(rw[xC];simp_all)))
theorem infoByte:(prog.info? 5).map (fun i=>(i.zero,i.size,i.bytes))=some (some (.int .u8 0),1,1):=aI
theorem C9(s w)(C:s.size<=281474976710656):
  bz 171 #[.string s] w (.string s):=by
 by_cases h0:s.size=0
 ·obtain rfl:s=⟨#[]⟩:=vK (FG h0);go_enter func171,ntmps171;go_wp2;go_ret;exact⟨rfl,Below.refl _ _⟩
 ·obtain⟨i,c,v,d,y⟩:=info_parts infoByte;have r:(prog.info? 5).map (·.size)=some 1:=by rw[c];simp[d]
  have o:prog.cellsOf 5=1:=by simp[Program.cellsOf,c,d]
  obtain⟨M,a⟩:∃M,M=madeCells (Value.int .u8 0).cells (((s.size:Nat):Int).toNat*i.size):=⟨_,rfl⟩;have z:M.size=s.size:=by rw[a,size_madeCells,d];simp
  have D:∀W:an,(Instr.makeSlice 158 (aj (s.size:Int)) (aj (s.size:Int))).run prog W=.ok (.slice (some (aa W.heap.size 0)) s.size s.size) (W.alloc (.cells M 5)):=fun W=>by have h:=run_make (P:=prog) W 158 5 i (.int .u8 0) underlying158 c v .i64 .i64 (s.size:Int) (s.size:Int) ak ak (by rw[y];omega) ak;rw[<-a]at h;simpa using h
  clear a;have q:=Lib.run_copy_row_string (P:=prog) (w.alloc (.cells M 5)) 158 9 3 5 w.heap.size 0 s.size s.size s M 5 underlying158 r (bW w _) (aV _) ak;obtain⟨Y,b⟩:∃Y,Y=(M.toList.take 0++kN s.data.toList++M.toList.drop (0+s.size)).toArray:=⟨_,rfl⟩;rw[<-b]at q
  have f:Y.toList=kN s.data.toList:=by rw[b,List.toList_toArray,List.take_zero,pW,List.drop_of_length_le (by rw[vH];omega),xK]
  have A:Y.size=s.size:=by rw[<-vH,f,Lib.byteCells_length,<-zS]
  have g:((w.alloc (.cells M 5)).setRow w.heap.size Y).heap[w.heap.size]? =some (.cells Y 5 (0,0)):=setRow_heap _ _ M _ 5 (0,0) (bW w _);have t:s.data.toList≠[]:=fun e=>h0 (by rw[zS,e];rfl)
  have l:=Lib.run_unsafeString_row (P:=prog) ((w.alloc (.cells M 5)).setRow w.heap.size Y) 262 3 9 5 underlying262 o w.heap.size Y.size (by unfold World.shape?;rw[g]) s.data.toList t (by rw[<-zS];omega) (by rw[<-zS];omega)
   (fun j x u=>Lib.cells_of_row g Y.size j _ (by rw[su (by rw[vH];exact aV _),f];simp[kN,u]))
  rw[<-zS]at l;clear b;go_enter func171,ntmps171;go_wp2;go_ret;have m:aB w (w.alloc (.cells M 5)):=aR;have n:Below w.heap.size (w.alloc (.cells M 5)) ((w.alloc (.cells M 5)).setRow w.heap.size Y):=⟨rfl,rfl,rfl,aq,fun k B=>setRow_other _ _ _ _ ak⟩;exact⟨rfl,Lib.below_freeze (m.trans n) (p:=aa w.heap.size 0) (aV _) _⟩
theorem Hq(s w)(b:s.size<=281474976710656):
  bz 117 #[.string s] w (.string s):=by
 go_enter func117,ntmps117;go_wp2_with (go_at_call 171;refine(C9 s _ b).mono ?_;rintro e c ⟨rfl,a⟩);go_ret;exact⟨rfl,a⟩
abbrev Ov:ByteArray:=⟨#[70,69,82,82,89]⟩
theorem ZI(k)(h:k<Ov.size):(Ov[k].toNat:Int)=uV k:=by
 match k,h with
 |0,_=>rfl
 |1,_=>rfl
 |2,_=>rfl
 |3,_=>rfl
 |4,_=>rfl
theorem ZJ(k):0<=uV k/\uV k<=255:=by unfold uV;repeat' split;all_goals omega
theorem Dc{B b w W}(h:Below B w W)(a:B<=b)(v0 v1 v2 v3 v4 v5 v6 v7 v8):
  Below B w (((((((((W.setCell (aa b 0) v0).setCell (aa b 1) v1).setCell (aa b 2) v2).setCell (aa b 3) v3).setCell (aa b 4) v4).setCell (aa b 5) v5).setCell (aa b 6) v6).setCell (aa b 7) v7).setCell (aa b 8) v8):=
 ((((((((h.setCell (p:=aa b 0) a v0).setCell (p:=aa b 1) a v1).setCell (p:=aa b 2) a v2).setCell (p:=aa b 3) a v3).setCell (p:=aa b 4) a v4).setCell (p:=aa b 5) a v5).setCell (p:=aa b 6) a v6).setCell (p:=aa b 7) a v7).setCell (p:=aa b 8) a v8
abbrev aQ.val(m:aQ):au:=.agg (eU m)
def ko(m:aQ)(sz:Int):Int:=
 if 5<m.kd\/AG m=false\/Bc m=false then 22 else if m.of+m.ln<=sz then 0 else if m.kd=1\/m.kd=4 then 28 else 22
theorem Yf(m sz)(n:0<=m.kd)(hf:0<=m.fl)(s:0<=sz):ko m sz=verdict sz m.kd m.fl m.of m.ln:=by
 obtain⟨u,t,f,g,p,of,ln,q,r⟩:=m;dsimp only at n hf;unfold ko verdict AG Bc;dsimp only
 by_cases i:5<f
 ·simp[i]
 have k:f=0\/f=1\/f=2\/f=3\/f=4\/f=5:=ak
 by_cases l:1<g
 ·have f1:¬g<=1:=ak;have f0:¬g=0:=ak;simp[i,l,f1,f0]
 have j:g=0\/g=1:=ak
 by_cases e:of+ln<=sz
 ·have h:¬sz<of+ln:=ak;simp only[e,h,cD,dy]
  by_cases a:of=0<;>by_cases b:ln=0<;>by_cases c:of %4=0<;>by_cases d:ln %4=0
  all_goals (rcases k with rfl|rfl|rfl|rfl|rfl|rfl<;>rcases j with rfl|rfl<;>simp[a,b,c,d])
 ·have h:sz<of+ln:=ak;simp only[e,h,cD,dy];have o:¬(of=0/\ln=0):=ak
  by_cases a:of=0<;>by_cases b:ln=0<;>by_cases c:of %4=0<;>by_cases d:ln %4=0
  all_goals (try(exfalso;exact o ⟨a,b⟩))
  all_goals (rcases k with rfl|rfl|rfl|rfl|rfl|rfl<;>rcases j with rfl|rfl<;>simp[a,b,c,d])
theorem Ou(m sz w)(h0:0<=m.of)(u:m.of<=65535)(r:0<=m.ln)(v:m.ln<=65535):
  bz 261 #[m.val,aj sz] w (aj (ko m sz)):=by
 obtain⟨i,g,a,f,b,of,ln,c,d⟩:=m;dsimp only at h0 u r v
 by_cases s:5<a
 ·have hF:Hid (ko ⟨i,g,a,f,b,of,ln,c,d⟩ sz=22):=by unfold ko;rw[aM (.inl s)];rfl
  have z:decide (5<a)=true:=by simpa using s
  go_enter func261,ntmps261;go_wp2_with fail;go_ret;exact⟨dG (fun x=>xE (aj x)) hF.out.symm,aR⟩
 ·have z:decide (5<a)=false:=by simpa using s
  cases l:AG ⟨i,g,a,f,b,of,ln,c,d⟩with
  |false=>
   have hF:Hid (ko ⟨i,g,a,f,b,of,ln,c,d⟩ sz=22):=by unfold ko;rw[aM (.inr (.inl l))];rfl
   go_enter func261,ntmps261;go_wp2_with (go_at_call 274;refine(Il ⟨i,g,a,f,b,of,ln,c,d⟩ _).mono ?_;rw[l];rintro e k ⟨rfl,j⟩);go_ret;exact⟨dG (fun x=>xE (aj x)) hF.out.symm,aR.trans (j.mono aq)⟩
  |true=>
   cases p:Bc ⟨i,g,a,f,b,of,ln,c,d⟩with
   |false=>
    have hF:Hid (ko ⟨i,g,a,f,b,of,ln,c,d⟩ sz=22):=by unfold ko;rw[aM (.inr (.inr p))];rfl
    go_enter func261,ntmps261;go_wp2_with (first|(go_at_call 274;refine(Il ⟨i,g,a,f,b,of,ln,c,d⟩ _).mono ?_;rw[l];rintro e k ⟨rfl,j⟩;obtain⟨y,A⟩:=jY j;have q:=j.size)|(go_at_call 275;refine(Rv ⟨i,g,a,f,b,of,ln,c,d⟩ _ h0 r).mono ?_;rw[p];rintro e t ⟨rfl,n⟩));go_ret;exact⟨dG (fun x=>xE (aj x)) hF.out.symm,(aR.trans (j.mono aq)).trans (n.mono (by simp at q;omega))⟩
   |true=>
    have hF:Hid (ko ⟨i,g,a,f,b,of,ln,c,d⟩ sz=(if of+ln<=sz then 0 else if a=1\/a=4 then 28 else 22)):=by unfold ko;rw[aD (by rw[l,p];simp;omega)];rfl
    have B:∀k:an,(w.alloc (.cells (ji i g a f b of ln c d) 132)).heap.size<=k.heap.size->w.heap.size+1<=k.heap.size:=fun k h=>by simpa using h
    go_enter func261,ntmps261;go_wp2_with (first|(go_at_call 274;refine(Il ⟨i,g,a,f,b,of,ln,c,d⟩ _).mono ?_;rw[l];rintro e k ⟨rfl,j⟩;obtain⟨y,A⟩:=jY j;have q:=j.size)|(go_at_call 275;refine(Rv ⟨i,g,a,f,b,of,ln,c,d⟩ _ h0 r).mono ?_;rw[p];rintro e t ⟨rfl,n⟩;have C:∀o,t.cell? (aa w.heap.size o)=k.cell? (aa w.heap.size o):=fun o=>n.cell (B _ q)))
    all_goals (go_ret;refine⟨Eq.trans (RK ?_) (dG (fun x=>xE (aj x)) hF.out.symm),(aR.trans (j.mono aq)).trans (n.mono (by simp at q;omega))⟩;go_light;(repeat' split)<;>simp_all<;>omega)
abbrev nQ(n:Int):au:=.iface 294 (.agg #[aj n])
def Ends(r:aQ×Int)(e:jP):Prop:=
 (r.1=.closing/\e=.panicked [{v:=nQ r.2,recovered:=false}])\/(r.1.wh≠4/\e=.returned (.tuple #[r.1.val,aj r.2]))
theorem On(s:ByteArray)(i:Nat)(h:i<s.size):s.extract i (i+1)=⟨#[s[i]]⟩:=by
 apply vK;apply xy
 ·simp[vJ];omega
 ·intro j a b;have:j=0:=by grind
  subst this;simp[vJ];rfl
theorem Rh(s:ByteArray)(w:an)(l:s.size<=bT):
  Calls prog 229 #[.string s] w fun e m=>Ends (opt s) e/\aB w m:=by
 unfold bT at l
 by_cases h0:s.size=0
 ·obtain rfl:s=⟨#[]⟩:=vK (FG h0);go_enter func229,ntmps229;go_wp2;exact fX (v:=.tuple #[aQ.zero.val,aj 0]) (by simp[results,results229,go_sem,aQ.zero]) rfl ⟨.inr ⟨by rw[show opt ⟨#[]⟩=(aQ.zero,0) from rfl];decide,rfl⟩,aR⟩
 ·have o:s.toList.isEmpty=false:=by
   rw[Bool.eq_false_iff,ByteArray.toList_eq];intro e;have:=List.isEmpty_iff.1 e;exact h0 (by rw[zS,this];rfl)
  have g:0<s.size:=ak;have q:(0:Int)<s.size:=ak;have i:=uN s 0 g;have r:=nR s 0
  by_cases a:bt s 0<97\/122<bt s 0
  ·have b:Hid (opt s=(.closing,1)):=by unfold opt;rw[aD h0,aM a];rfl
   have c:=aL a;clear a
   by_cases k:bt s 0<97
   ·clear c;go_enter func229,ntmps229;go_wp2;exact⟨rfl,.inl (by rw[b.out];exact⟨rfl,rfl⟩),aR⟩
   ·have j:122<bt s 0:=by have:=c.out;omega
    clear c;go_enter func229,ntmps229;go_wp2;exact⟨rfl,.inl (by rw[b.out];exact⟨rfl,rfl⟩),aR⟩
  ·have b:Hid (opt s=(⟨2,s.extract 0 1,0,0,0,0,0,⟨#[]⟩,0⟩,1)):=by unfold opt;rw[aD h0,aD a];rfl
   have k:¬bt s 0<97:=ak;have j:¬122<bt s 0:=ak;clear a
   have f:∀W,bz 237 #[.int .u8 (bt s 0)] W (.string (s.extract 0 1)):=fun W=>by have:=JH s[0] W;rw[i]at this;rw[On s 0 g];exact this
   have h:=aL f;clear f;go_enter func229,ntmps229;go_wp2_with (go_at_call 237;refine(h.out _).mono ?_;rintro e t ⟨rfl,d⟩;obtain⟨n,p⟩:=jY d);exact fX (v:=.tuple #[aQ.val ⟨2,s.extract 0 1,0,0,0,0,0,⟨#[]⟩,0⟩,aj 1]) (by simp[results,results229,go_sem, *]) rfl ⟨.inr (by rw[b.out];exact⟨show(2:Int)≠4 by decide,rfl⟩),Dc (aR.trans (d.mono aq)) (aV _) _ _ _ _ _ _ _ _ _⟩
theorem Pn(s:ByteArray)(w:an)(u:s.size<=bT):
  Calls prog 228 #[.string s] w fun e x=>Ends (mC s) e/\aB w x:=by
 unfold bT at u;obtain⟨N,q⟩:∃N:Nat,N=min s.size 5:=⟨_,rfl⟩
 have I:∀W,(Builtin.min_ #[3,3] 3 #[aj (s.size:Int),aj 5]).run prog W=.ok (aj (N:Int)) W:=fun W=>by
  rw[run_min_int2]
  congr 2
  split<;>omega
 have B:N<=5:=ak;have C:N<=s.size:=ak;have g:=aL q;go_enter func228,ntmps228;go_wp2
 go_loopw [8] (fun i wr=>∃k:Nat,k<=N/\i=aj k/\Hid (mC s=cP s (5-k) k)/\∃d,wr=(w.alloc (.cells (fW) 132)).drewN d) (fun i _=>N-(intOf i).toNat)
 case atStart=>exact⟨0,eE _,rfl,rfl,0,rfl⟩
 case round=>
  obtain⟨k,F,rfl,b,d,rfl⟩:=hrel
  by_cases H:k<N
  ·have f:k<5:=ak;have t:k<s.size:=ak;have y:=uN s k t;have z:=ZI k f;have L:=nR s k;have M:=ZJ k;have J:(k:Int)<s.size:=ak
   by_cases c:bt s k=uV k
   ·have a:Hid (mC s=cP s (5-(k+1)) (k+1)):=by
     have:=b.out;rw[show 5-k=(5-(k+1))+1 by omega,cP,aD ak,aM c]at this;exact this
    have r:(bt s k !=uV k)=false:=by simpa using c
    go_wp2
    go_quiet (fail)
    go_wp2
    go_roundw
    case rel=>exact⟨k+1,ak,by go_num,a,_,rfl⟩
    case measure=>simp[intOf];omega
   ·have a:Hid (mC s=(.closing,(k:Int)+1)):=by
     have:=b.out;rw[show 5-k=(5-(k+1))+1 by omega,cP,aD ak,aD c]at this;exact this
    have r:(bt s k !=uV k)=true:=by simpa using c
    go_wp2
    go_quiet (fail)
    go_wp2;exact⟨rfl,.inl (by rw[a.out];exact⟨rfl,rfl⟩),ig (aR) _⟩
  ·obtain rfl:k=N:=ak
   by_cases A:s.size<=5
   ·have a:Hid (mC s=(.zero,0)):=by
     have h:=b.out;have G:k=s.size:=by have:=g.out;omega
     by_cases p:k=5
     ·rw[p,show 5-5=0 from rfl,cP,aM ak]at h;exact h
     ·rw[show 5-k=(4-k)+1 by omega,cP,aM ak]at h;exact h
    go_wp2;exact fX (v:=.tuple #[aQ.zero.val,aj 0]) (by simp[results,results228,go_sem,aQ.zero]) rfl ⟨.inr (by rw[a.out];exact⟨cq,rfl⟩),Dc (ig (aR) _) (aV _) _ _ _ _ _ _ _ _ _⟩
   ·have f:k=5:=by have:=g.out;omega
    have a:Hid (mC s=(⟨1,s.extract 5 6,0,0,0,0,0,⟨#[]⟩,0⟩,6)):=by have h:=b.out;rw[f,show 5-5=0 from rfl,cP,aD ak]at h;exact h
    have m:5<s.size:=ak;have K:(5:Int)<s.size:=ak;have o:=uN s 5 m;have O:=nR s 5
    have l:∀W,bz 237 #[.int .u8 (bt s 5)] W (.string (s.extract 5 6)):=fun W=>by have:=JH s[5] W;rw[o]at this;rw[On s 5 m];exact this
    have n:=aL l;clear l;go_wp2_with (go_at_call 237;refine(n.out _).mono ?_;rintro e P ⟨rfl,j⟩;obtain⟨D,E⟩:=jY j);exact fX (v:=.tuple #[aQ.val ⟨1,s.extract 5 6,0,0,0,0,0,⟨#[]⟩,0⟩,aj 6]) (by simp[results,results228,go_sem, *]) rfl ⟨.inr (by rw[a.out];exact⟨show(1:Int)≠4 by decide,rfl⟩),Dc ((ig (aR) _).trans (j.mono aq)) (aV _) _ _ _ _ _ _ _ _ _⟩
def sizeOf'(m:aQ):Int:=if m.kd=0 then 4+m.ln else 4
def cJ(m:aQ):Int:=if m.kd=2 then 4 else m.ln
theorem Wv(x)(h0:0<=x)(a:x<256):((zo x.toNat).toNat:Int)=x:=by simp[Va];omega
end
section
attribute [local go_sem ↓] Go.wp_at_zero Go.wp_at_succ
attribute [local go_sem] bq bg
open Go.Conc Go.RowKit
open Go.Proofs.Tryz
abbrev clL(no wt sz cl e b d rt a f c:Int)(rb:Nat)(s:ByteArray)(out:au)(tok de:Int)(ch:Nat):Array au:=
 #[aj no,aj wt,aj sz,aj cl,aj e,aj b,aj d,aj rt,aj a,aj f,aj c,aF rb,.string s,.slice none 0 0,aj 0,aj 0,out,aj tok,aj de,aj 0,.chan (some ch)]
theorem yN(c ch w)(h:w.cell? (aa c 20)=some (.chan (some ch)))(hc:w.heap[ch]? =some (.chan 0 #[] false 0 0 false)):
  fE 116 #[aF c] w (.bool false):=by
 refine calls_of_loneTo fun cs=>?_
 have e:Frame.enter prog 116 #[aF c] .normal=(base 116).at ⟨#[aF c,undef,undef,undef,undef,undef,undef,undef,undef,undef],[]⟩ [.code (f116.body.getD .skip)]:=by simp[Frame.enter,Frame.at,func116,base,f116]
 rw[e];refine Gl (n:=13) ?_;simp only[f116,mj]
 s_c bP
 s_reg
 s_op
 s_c cy
 s_c bP
 s_reg
 s_op
 s_op
 s_op
 s_op
 s_c cy
 s_c bP
 s_reg
 s_stop
 refine UM (step_lone_select_default (c:=ch) (z:=.agg #[]) (cap:=0) (s:=0) (r:=0) (tm:=false) (stepG_comm (cases:=#[rcase ch (.agg #[])]) (blocking:=false) (shape:=.select) (w':=w) rfl rfl cq (by simp[go_sem,execOp,rcase,Act.eval])) hc) ?_;rw[xG]
 walk_nrm
 refine Gl (n:=11) ?_
 s_op
 s_op
 s_c cy
 s_c stepG_block
 s_cond false
 s_c bP
 s_reg
 s_op
 s_c cy
 s_c stepG_ret'
 s_stop
 exact LoneTo.done ⟨.returned (.bool false),_,rfl,⟨rfl,rfl⟩,rfl,rfl,rfl,rfl,_,func116,by simp[results,f116,Frame.at]⟩
theorem Eb(c ch w)(h:w.cell? (aa c 20)=some (.chan (some ch)))(hc:w.heap[ch]? =some (.chan 0 #[] true 0 0 false)):
  fE 116 #[aF c] w (.bool true):=by
 refine calls_of_loneTo fun cs=>?_
 have e:Frame.enter prog 116 #[aF c] .normal=(base 116).at ⟨#[aF c,undef,undef,undef,undef,undef,undef,undef,undef,undef],[]⟩ [.code (f116.body.getD .skip)]:=by simp[Frame.enter,Frame.at,func116,base,f116]
 rw[e];refine Gl (n:=13) ?_;simp only[f116,mj]
 s_c bP
 s_reg
 s_op
 s_c cy
 s_c bP
 s_reg
 s_op
 s_op
 s_op
 s_op
 s_c cy
 s_c bP
 s_reg
 s_stop
 refine UM (step_lone_select_recv_shut (c:=ch) (z:=.agg #[]) (cap:=0) (s:=0) (r:=0) (tm:=false) (stepG_comm (cases:=#[rcase ch (.agg #[])]) (blocking:=false) (shape:=.select) (w':=w) rfl rfl cq (by simp[go_sem,execOp,rcase,Act.eval])) hc) ?_;rw[xG]
 walk_nrm
 refine Gl (n:=11) ?_
 s_op
 s_op
 s_c cy
 s_c stepG_block
 s_cond true
 s_c bP
 s_reg
 s_op
 s_c cy
 s_c stepG_ret'
 s_stop
 exact LoneTo.done ⟨.returned (.bool true),_,rfl,⟨rfl,rfl⟩,rfl,rfl,rfl,rfl,_,func116,by simp[results,f116,Frame.at]⟩
theorem gM{w:an}{a:eV}{v:au}(h:w.cell? a=some v):a.block<w.heap.size:=by
 unfold eO at h;cases e:w.heap[a.block]? with
 |none=>rw[e]at h;cases h
 |some o=>exact(aP.1 e).1
theorem bp{w w':an}(b:aB w w'){a:eV}{v:au}(h:w.cell? a=some v):w'.cell? a=some v:=by rw[fC (b.block a.block (gM h))];exact h
abbrev Z4:au:=.agg #[aj 0,.string ⟨#[]⟩,aj 0,aj 0,aj 0,aj 0,aj 0,.string ⟨#[]⟩,aj 0,aj 0]
theorem F5(c ch w)(h:w.cell? (aa c 20)=some (.chan (some ch)))(hc:w.heap[ch]? =some (.chan 0 #[] true 0 0 false)):
  bz 151 #[aF c] w (.bool false):=by
 go_enter func151,ntmps151;go_wp2
 go_quiet ((go_at_call 116;exact Calls.quiet_of_same (Eb c ch _ h hc)))
 go_wp2;go_ret;exact⟨rfl,ig (Below.refl _ _) _⟩
end
section
attribute [local go_sem ↓] Go.wp_at_zero Go.wp_at_succ
attribute [local go_sem] bq bg
open Go.Proofs.Tryz
open Go.RowKit
theorem byte_back(x)(h0:0<=x)(a:x<256):((zo x.toNat).toNat:Int)=x:=by simp[Va];omega
theorem Jo(n w)(h0:0<=n)(e:n<=65535):
  bz 238 #[aj n] w (.string ⟨(jg n).toArray⟩):=by
 have a:=byte_back (n %256) ak ak;have b1:=byte_back (n / 256) ak ak;have d:=Vo (w.alloc (.cells #[.int .u8 (n %256),.int .u8 (n / 256)] 5)) 158 9 5 ⟨w.heap.size,0,none⟩ 2 (jg n) underlying158 underlying5 underlying9
 have b:∀(j:Nat) (c:j<(jg n).length),(w.alloc (.cells #[.int .u8 (n %256),.int .u8 (n / 256)] 5)).cell? ((⟨w.heap.size,0,none⟩:eV).add j)=some (.int .u8 ((jg n)[j].toNat:Int)):=by
  intro j c
  match j,c with
  |0,_=>simp only[jg,qO,a];simp[Addr.add,go_sem]
  |1,_=>simp only[jg,rY,qO,b1];simp[Addr.add,go_sem]
 have f:(convert 158 9 (.slice (some (aa w.heap.size 0)) 2 2)).run prog (w.alloc (.cells #[.int .u8 (n %256),.int .u8 (n / 256)] 5))=.ok (.string ⟨(jg n).toArray⟩) (w.alloc (.cells #[.int .u8 (n %256),.int .u8 (n / 256)] 5)):=d b;clear d b a b1;go_enter func238,ntmps238;go_wp2;go_ret;exact⟨rfl,aR⟩
theorem VP(s w v)(hv:Hid (v=if(s.toList==[97])=true then⟨#[89]⟩else⟨#[78]⟩)):
  fE 232 #[.string s] w (.string v):=by
 cases h:(s.toList==[97])with
 |true=>
  go_enter func232,ntmps232;go_wp2;go_ret;exact⟨by rw[hv.out,aM h];rfl,rfl⟩
 |false=>
  go_enter func232,ntmps232;go_wp2;go_ret;exact⟨by rw[hv.out,h];rfl,rfl⟩
theorem VQ(sz cl qu mx qn rt bu wk ou s w v)(h0:0<=sz/\sz<=65535)(f:0<=mx/\mx<=65535)(n:s.size<=65535)(hv:Hid (v=if(s.toList==[105])=true then⟨#[73]⟩++⟨(jg sz).toArray⟩++⟨(jg mx).toArray⟩else if(s.toList==[103])=true then⟨#[71]⟩else⟨#[85]⟩++s)):
  bz 233 #[.agg (fc sz cl qu mx qn rt bu wk ou),.string s] w (.string v):=by
 have k:(jg sz).length=2:=rfl;have l:(jg mx).length=2:=rfl;cases h:(s.toList==[105])with
 |true=>
  go_enter func233,ntmps233
  go_upto_region 3 with fail
  have c:Hid (aB w (w.alloc (.cells (fc sz cl qu mx qn rt bu wk ou) 35)).drew):=aR.drew;refine dR (S:=fun W=>W.cell? (aa w.heap.size 0)=some (aj sz)/\W.cell? (aa w.heap.size 3)=some (aj mx)) ⟨by simp[go_sem],by simp[go_sem]⟩ fun j=>?_;refine tk 0 ?_;refine tk 1 ?_;refine tk 4 ?_;refine tk 5 ?_;refine rH 2 fun K a=>?_;go_simp
  (refine(Jo sz _ h0.1 h0.2).mono ?_;rintro e o ⟨rfl,b⟩)
  go_wp2_with fail;refine a.out _ _ (⟨bp b j.1,bp b j.2⟩) (fun i=>?_);clear a K;refine tk 3 ?_;refine rH 6 fun K a=>?_;go_simp
  (refine(Jo mx _ f.1 f.2).mono ?_;rintro e p ⟨rfl,d⟩)
  go_wp2_with fail;refine a.out _ _ (⟨bp d i.1,bp d i.2⟩) (fun m=>?_);clear a K;refine tk 7 ?_;refine tk 8 ?_;refine cK ?_
  (go_wp2_with fail;go_ret;exact⟨by rw[hv.out,aM h];rfl,c.out.trans ((b.mono c.out.size).trans (d.mono (cS c.out.size b.size)))⟩)
 |false=>
  cases g:(s.toList==[103])with
  |true=>
   go_enter func233,ntmps233;go_wp2;go_ret;exact⟨by rw[hv.out,h,g];rfl,aR⟩
  |false=>
   go_enter func233,ntmps233;go_wp2;go_ret;exact⟨by rw[hv.out,h,g];rfl,aR⟩
theorem VS(sz cl qu a qn rt bu wk ou m w)(h0:0<=sz/\sz<=65535)(k:0<=a/\a<=65535)(j:m.nm.size<=65535)(hm:m.wh=1\/m.wh=2\/m.wh=4):
  bz 192 #[.agg (fc sz cl qu a qn rt bu wk ou),.agg (eU m)] w (.string (answer sz a m)):=by
 obtain⟨o,b,i,h,d,of,ln,f,g⟩:=m;dsimp only at hm j;rcases hm with rfl|rfl|rfl
 ·have hv:Hid (answer sz a ⟨1,b,i,h,d,of,ln,f,g⟩=if(b.toList==[97])=true then⟨#[89]⟩else⟨#[78]⟩):=rfl;obtain⟨v,c⟩:∃v,v=answer sz a ⟨1,b,i,h,d,of,ln,f,g⟩:=⟨_,rfl⟩;rw[<-c]at hv⊢;clear c;go_enter func192,ntmps192;go_wp2_with (go_at_call 232;refine(VP b _ v hv).mono ?_;rintro e n ⟨rfl,rfl⟩);go_ret;exact⟨rfl,aR.alloc aq _⟩
 ·have hv:Hid (answer sz a ⟨2,b,i,h,d,of,ln,f,g⟩=if(b.toList==[105])=true then⟨#[73]⟩++⟨(jg sz).toArray⟩++⟨(jg a).toArray⟩else if(b.toList==[103])=true then⟨#[71]⟩else⟨#[85]⟩++b):=rfl;obtain⟨v,c⟩:∃v,v=answer sz a ⟨2,b,i,h,d,of,ln,f,g⟩:=⟨_,rfl⟩;rw[<-c]at hv⊢;clear c;go_enter func192,ntmps192;go_wp2_with (go_at_call 233;refine(VQ sz cl qu a qn rt bu wk ou b _ v h0 k j hv).mono ?_;rintro e n ⟨rfl,l⟩);go_ret;exact⟨rfl,(aR.alloc aq _).trans (l.mono bK)⟩
 ·have hv:Hid (answer sz a ⟨4,b,i,h,d,of,ln,f,g⟩=⟨#[]⟩):=rfl;obtain⟨v,c⟩:∃v,v=answer sz a ⟨4,b,i,h,d,of,ln,f,g⟩:=⟨_,rfl⟩;rw[<-c]at hv⊢;clear c;go_enter func192,ntmps192;go_wp2;go_ret;exact⟨by rw[hv.out];rfl,aR.alloc aq _⟩
theorem Wi(w o1 o2 o3 d):aB w ((((w.alloc o1).alloc o2).alloc o3).drewN d):=
 ig ((aR.alloc aq _).alloc bK _) d
theorem iu{w:an}{b o:Nat}{v:au}(h:w.cell? (aa b o)=some v):b<w.heap.size:=by
 by_cases a:b<w.heap.size
 ·exact a
 ·simp[eO,qJ (Nat.le_of_not_lt a)]at h
theorem aet(us:List Int)(b:Int):Maps.has (zV (H:=Unit) (.agg []) (us.map (Lit.int .i64))) (.int .i64 b)=decide (b∈us):=by rw[Maps.has_setOf _ _ _ (by intro x c;simp at c;obtain⟨a,_,rfl⟩:=c;trivial)];rw[xC];simp[Lit.sameKey,qM]
abbrev Uses(w:an)(mb:Nat)(us:List Int):Prop:=w.ownsMap prog 3 (unitElem (H:=Unit)) mb us.length (zV (.agg []) (us.map (Lit.int .i64)))
theorem aev{w mb us}(h:Uses w mb us)(a:Int)(c:0<=a/\a<=65535):
  (BL 226 (.map (some mb)) (aj a) true).run prog w=.ok (.tuple #[.agg #[],.bool (decide (a∈us))]) w:=by
 obtain⟨v,d,b,hv⟩:=h.look_ok (Cb underlying3) underlying226 (zeroValue169 w) unitElem_mk (kl:=.int .i64 a) (UP underlying3 (by simp[Lit.wf,IntKind.min,IntKind.max,Uw,Uv];omega));obtain⟨rfl,_⟩:=unitElem_inv hv;rw[aet]at b;exact b
structure dz(w:an)(rb mb:Nat)(sz mx ph:Int)(us:List Int):Prop where
 box:w.heap[rb]? =some (.cells #[aj sz,aj mx,aj ph,.map (some mb)] 228 (0,0))
 uses:Uses w mb us
theorem dz.lt{w rb mb sz mx ph us}(h:dz w rb mb sz mx ph us):rb<w.heap.size/\mb<w.heap.size:=
 ⟨(aP.1 h.box).1,h.uses.lt⟩
theorem dz.cell{w rb mb sz mx ph us}(h:dz w rb mb sz mx ph us):
  w.cell? (aa rb 0)=some (aj sz)/\w.cell? (aa rb 1)=some (aj mx)/\w.cell? (aa rb 2)=some (aj ph)/\w.cell? (aa rb 3)=some (.map (some mb)):=by
 simp[eO,h.box]
theorem dz.kept{w w' rb mb sz mx ph us}(h:dz w rb mb sz mx ph us){row}(a:w.grownBy w' row)(b:some rb≠row)(c:some mb≠row):dz w' rb mb sz mx ph us:=
 ⟨(a.block _ h.lt.1 b).trans h.box,h.uses.kept a c⟩
theorem Iz{w w'}(h:aB w w'):w.grownBy w' none:=⟨h.os,h.tape,h.output,h.size,fun k a _=>h.block k a⟩
theorem dz.later{w w' rb mb sz mx ph us}(h:dz w rb mb sz mx ph us)(a:aB w w'):dz w' rb mb sz mx ph us:=
 h.kept (Iz a) aq aq
theorem aeg(s i)(h:i+1<s.size):two (s.extract i s.size) 0=two s i:=by
 have e:∀j,i+j<s.size->bt (s.extract i s.size) j=bt s (i+j):=fun j a=>by
  unfold bt
  congr 1
  simp[vJ,vG,a];split
  ·rfl
  ·rename_i b;have:s.data.size=s.size:=rfl;omega
 unfold two;rw[e 0 ak,e (0+1) ak];rfl
theorem tN(s i s' w)(d:s.size<=bT)(a:i+1<s.size)(b:s'=s.extract i s.size):
  Calls prog 273 #[.string s'] w fun e c=>e=.returned (aj (two s i))/\∃n,c=w.drewN n:=by
 subst b;have f:(s.extract i s.size).size=s.size-i:=by simp[kL]
 have:=aef (s.extract i s.size) w ak ak;rw[aeg s i a]at this;exact this
abbrev sN(rb mb b:Nat)(a:Int)(us:List Int)(W:an):Prop:=
 W.cell? (aa rb 3)=some (.map (some mb))/\W.cell? (aa b 4)=some (aj a)/\(BL 226 (.map (some mb)) (aj a) true).run prog W=.ok (.tuple #[.agg #[],.bool (decide (a∈us))]) W/\Uses W mb us/\(0<=a/\a<=65535)
theorem sN.mk'{rb mb b ck us W}(d:W.cell? (aa rb 3)=some (.map (some mb)))(e:W.cell? (aa b 4)=some (aj ck))(a:Uses W mb us)(c:0<=ck/\ck<=65535):sN rb mb b ck us W:=
 ⟨d,e,aev a ck c,a,c⟩
theorem sN.keep{rb mb b ck us W o}(h:sN rb mb b ck us W):sN rb mb b ck us (W.alloc o):=
 have a:=(Below.refl W.heap.size W).alloc (aV _) o
 .mk' ((a.cell (iu h.1)).trans h.1) ((a.cell (iu h.2.1)).trans h.2.1) (h.2.2.2.1.alloc o) h.2.2.2.2
abbrev PL(s:ByteArray):aQ:=⟨3,⟨#[]⟩,bt s 1,bt s 2,two s 3,two s 5,two s 7,⟨#[]⟩,0⟩
theorem DN(rb mb sz mx ph us s w)(c:s.size<=bT)(L:9<=s.size)(hR:dz w rb mb sz mx ph us):
  Calls prog 260 #[aF rb,.string s] w fun e b=>
   (if bt s 0≠81\/mx<two s 7\/two s 3∈us then e=.panicked [{v:=nQ 9,recovered:=false}]else e=.returned (PL s).val)/\aB w b:=by
 have E:=c;unfold bT at E;have n0:0<s.size:=ak;have n1:1<s.size:=ak;have n2:2<s.size:=ak;have i0:(0:Int)<s.size:=ak;have i1:(1:Int)<s.size:=ak;have i2:(2:Int)<s.size:=ak;have i3:(3:Int)<=s.size:=ak;have i5:(5:Int)<=s.size:=ak;have i7:(7:Int)<=s.size:=ak;have G:=uN s 0 ak;have H:=uN s 1 ak;have I:=uN s 2 ak;have r0:=nR s 0;have r1:=nR s 1;have r2:=nR s 2;have k1:gU.wrap (bt s 1)=bt s 1:=by rw[Uy];omega
 have k2:gU.wrap (bt s 2)=bt s 2:=by rw[Uy];omega
 have F:=kG s 3;have r5:=kG s 5;have r7:=kG s 7;obtain⟨g0,y,J,z⟩:=hR.cell;have o:=hR.lt;have r:=o.1;have x:=aL hR;clear hR o;go_enter func260,ntmps260
 go_upto_region 1 with fail
 go_cut [5] (fun p b=>∃d,p=aF (w.heap.size+1)/\b=((w.alloc (.cells (fW) 132)).alloc (.cells (qC s) 132)).drewN d)
 case first=>
  refine dR (S:=fun _=>True) trivial fun m=>?_;refine tk 0 ?_;refine tk 1 ?_;refine tk 2 ?_;refine tk 3 ?_;refine tk 4 ?_;refine tk 5 ?_;refine tk 6 ?_;refine tk 7 ?_;refine tk 9 ?_;refine tk 10 ?_;refine tk 12 ?_;refine tk 13 ?_;refine aH [8,16] (.cons rfl (fun K a=>?_) ?_)
  ·go_simp
   (refine(tN s 3 _ _ c ak rfl).mono ?_;rintro e b ⟨rfl,d,rfl⟩)
   go_wp2_with fail;refine a.out _ _ (trivial) (fun T=>?_);clear a K;refine aH [11,16] (.cons rfl (fun K a=>?_) ?_)
   ·go_simp
    (refine(tN s 5 _ _ c ak rfl).mono ?_;rintro e b ⟨rfl,d,rfl⟩)
    go_wp2_with fail;refine a.out _ _ (trivial) (fun U=>?_);clear a K;refine aH [14,16] (.cons rfl (fun K a=>?_) ?_)
    ·go_simp
     (refine(tN s 7 _ _ c ak rfl).mono ?_;rintro e b ⟨rfl,d,rfl⟩)
     go_wp2_with fail;refine a.out _ _ (trivial) (fun V=>?_);clear a K;refine tk 15 ?_;refine rH 16 fun K a=>?_;go_simp;refine a.out _ _ (trivial) (fun W=>?_);clear a K;refine rH 17 fun K a=>?_;go_simp;refine a.out _ _ (trivial) (fun X=>?_);clear a K;refine cK ?_
     (go_wp2_with fail;go_meet;case rel=>exact⟨_,rfl,rfl⟩)
    refine .cons rfl (fun K a=>?_) .nil;go_simp;refine a.out _ _ (trivial) (fun Y=>?_);clear a K;refine rH 14 fun K a=>?_;go_simp
    (refine(tN s 7 _ _ c ak rfl).mono ?_;rintro e b ⟨rfl,d,rfl⟩)
    go_wp2_with fail;refine a.out _ _ (trivial) (fun Z=>?_);clear a K;refine tk 15 ?_;refine rH 17 fun K a=>?_;go_simp;refine a.out _ _ (trivial) (fun af=>?_);clear a K;refine cK ?_
    (go_wp2_with fail;go_meet;case rel=>exact⟨_,rfl,rfl⟩)
   refine .cons rfl (fun K a=>?_) .nil;go_simp;refine a.out _ _ (trivial) (fun ah=>?_);clear a K;refine rH 11 fun K a=>?_;go_simp
   (refine(tN s 5 _ _ c ak rfl).mono ?_;rintro e b ⟨rfl,d,rfl⟩)
   go_wp2_with fail;refine a.out _ _ (trivial) (fun av=>?_);clear a K;refine rH 14 fun K a=>?_;go_simp
   (refine(tN s 7 _ _ c ak rfl).mono ?_;rintro e b ⟨rfl,d,rfl⟩)
   go_wp2_with fail;refine a.out _ _ (trivial) (fun ay=>?_);clear a K;refine tk 15 ?_;refine rH 17 fun K a=>?_;go_simp;refine a.out _ _ (trivial) (fun az=>?_);clear a K;refine cK ?_
   (go_wp2_with fail;go_meet;case rel=>exact⟨_,rfl,rfl⟩)
  refine .cons rfl (fun K a=>?_) .nil;go_simp;refine a.out _ _ (trivial) (fun N=>?_);clear a K;refine rH 8 fun K a=>?_;go_simp
  (refine(tN s 3 _ _ c ak rfl).mono ?_;rintro e b ⟨rfl,d,rfl⟩)
  go_wp2_with fail;refine a.out _ _ (trivial) (fun O=>?_);clear a K;refine rH 11 fun K a=>?_;go_simp
  (refine(tN s 5 _ _ c ak rfl).mono ?_;rintro e b ⟨rfl,d,rfl⟩)
  go_wp2_with fail;refine a.out _ _ (trivial) (fun P=>?_);clear a K;refine rH 14 fun K a=>?_;go_simp
  (refine(tN s 7 _ _ c ak rfl).mono ?_;rintro e b ⟨rfl,d,rfl⟩)
  go_wp2_with fail;refine a.out _ _ (trivial) (fun Q=>?_);clear a K;refine tk 15 ?_;refine rH 17 fun K a=>?_;go_simp;refine a.out _ _ (trivial) (fun R=>?_);clear a K;refine cK ?_
  (go_wp2_with fail;go_meet;case rel=>exact⟨_,rfl,rfl⟩)
 case rest=>
  obtain⟨d,rfl,rfl⟩:=hcut;have l:aB w ((w.alloc (.cells (fW) 132)).alloc (.cells (qC s) 132)):=aR.alloc aq _
  have n:sN rb mb (w.heap.size+1) (two s 3) us (((w.alloc (.cells (fW) 132)).alloc (.cells (qC s) 132)).drewN d).drew:=
   sN.mk' (by simp only[World.drew_drewN,World.cell?_drewN];exact(l.cell (p:=aa rb 3) r).trans z) (by simp[go_sem]) (x.out.later l).uses F
  go_upto_region 2 with fail
  go_cut [7] (fun q b=>∃d,q=.bool (decide (two s 3∈us))/\b=(((w.alloc (.cells (fW) 132)).alloc (.cells (qC s) 132)).alloc (.cells #[] 169)).drewN d)
  case first=>
   refine dR (S:=fun b=>sN rb mb (w.heap.size+1) (two s 3) us b) n fun m=>?_;refine tk 0 ?_;refine tk 1 ?_;refine tk 2 ?_;refine tk 3 ?_;refine tk 4 ?_;refine tk 5 ?_;refine tk 6 ?_;refine tk 7 ?_;refine tk 8 ?_;refine tk 9 ?_;refine rH 10 fun K a=>?_;go_simp;refine a.out _ _ (sN.keep m) (fun A=>?_);clear a K;refine rH 11 fun K a=>?_;go_simp;refine a.out _ _ (A) (fun M=>?_);clear a K;refine tk 12 ?_;refine cK ?_
   (go_wp2_with fail;go_meet;case rel=>exact⟨_,rfl,rfl⟩)
  case rest=>
   clear n;obtain⟨d2,rfl,rfl⟩:=hcut;have q0:¬rb=w.heap.size:=ak;have q1:¬rb=w.heap.size+1:=ak;have q2:¬rb=w.heap.size+1+1:=ak;have k:aB w (((w.alloc (.cells (fW) 132)).alloc (.cells (qC s) 132)).alloc (.cells #[] 169)):=l.trans ((Below.refl _ _).alloc bK _);have m1:(((w.alloc (.cells (fW) 132)).alloc (.cells (qC s) 132)).alloc (.cells #[] 169)).cell? (aa rb 1)=some (aj mx):=(k.cell (p:=aa rb 1) r).trans y
   by_cases g:bt s 0=81
   ·have B:(bt s 0 !=81)=false:=by simpa using g
    have t:=aL g;clear g
    by_cases i:mx<two s 7
    ·have f:Hid (bt s 0≠81\/mx<two s 7\/two s 3∈us):=.inr (.inl i);have C:decide (mx<two s 7)=true:=by simpa using i
     clear i;go_wp2
     go_quiet (fail)
     go_wp2;exact⟨rfl,by first|rfl|(rw[aM f.out]),ig k _⟩
    ·have C:decide (mx<two s 7)=false:=by simpa using i
     have u:=aL i;clear i
     by_cases j:two s 3∈us
     ·have f:Hid (bt s 0≠81\/mx<two s 7\/two s 3∈us):=.inr (.inr j);have D:decide (two s 3∈us)=true:=by simpa using j
      clear j;go_wp2
      go_quiet (fail)
      go_wp2;exact⟨rfl,by first|rfl|(rw[aM f.out]),ig k _⟩
     ·have f:Hid (¬(bt s 0≠81\/mx<two s 7\/two s 3∈us)):=by
       rintro(h|h|h)
       ·exact h t.out
       ·exact u.out h
       ·exact j h
      have D:decide (two s 3∈us)=false:=by simpa using j
      clear j;go_wp2
      go_quiet (fail)
      go_wp2;exact fX (v:=(PL s).val) (by simp[results,results260,go_sem]) rfl ⟨by first|rfl|(rw[aD f.out]),Wi _ _ _ _ _⟩
   ·have f:Hid (bt s 0≠81\/mx<two s 7\/two s 3∈us):=.inl g;have B:(bt s 0 !=81)=true:=by simpa using g
    clear g;go_wp2
    go_quiet (fail)
    go_wp2;exact⟨rfl,by first|rfl|(rw[aM f.out]),ig k _⟩
end
section
open Go.Conc Go.RowKit
theorem Ru(a:Act)(d:Option Tmp)(v:au):(a.put d v).tmps.size=a.tmps.size:=by cases d<;>simp[Act.put]
theorem put_defers(a:Act)(d:Option Tmp)(v:au):(a.put d v).defers=a.defers:=by cases d<;>rfl
theorem Oj{a:Act}{d:Nat}(v)(h:d<a.tmps.size):(a.put (some d) v).eval (.tmp d)=v:=by simp[Act.put,Act.eval,vG,h]
theorem Oi{a:Act}{d i:Nat}(v)(h:i≠d):(a.put (some d) v).eval (.tmp i)=a.eval (.tmp i):=by simp only[Act.put,Act.eval,tO];rw[dx (cW h)]
theorem ev{a:Act}{k:Nat}{v:au}(h:a.eval (.tmp k)=v):a.tmps[k]?.getD undef=v:=by simpa[Act.eval,tO]using h
def ct:Code->Code|.cond _ x _=>x|_=>.skip
def cf:Code->Code|.cond _ _ y=>y|_=>.skip
end
section
attribute [local go_sem ↓] Go.wp_at_zero Go.wp_at_succ
attribute [local go_sem] bq bg
open Go.RowKit
def aQ.cells(m:aQ):List au:=[aj m.wh,.string m.nm,aj m.kd,aj m.fl,aj m.ck,aj m.of,aj m.ln,.string m.dt,aj m.er]
end
section
attribute [local go_sem ↓] Go.wp_at_zero Go.wp_at_succ
attribute [local go_sem] bq bg
open Go.Proofs.Tryz
open Go.RowKit
theorem vq{B}{e:TypeId}{k v n xs w w'}(h:w.ownsRow B e k v n xs)(a:aB w w'):w'.ownsRow B e k v n xs:=
 h.kept (row:=none) ⟨a.os,a.tape,a.output,a.size,fun j b _=>a.block j b⟩ (by grind)
abbrev gL(w:an)(b:Nat)(m:aQ):Prop:=
 w.cell? (aa b 0)=some (aj m.wh)/\w.cell? (aa b 1)=some (.string m.nm)/\w.cell? (aa b 2)=some (aj m.kd)/\w.cell? (aa b 3)=some (aj m.fl)/\w.cell? (aa b 4)=some (aj m.ck)/\w.cell? (aa b 5)=some (aj m.of)/\w.cell? (aa b 6)=some (aj m.ln)/\w.cell? (aa b 7)=some (.string m.dt)/\w.cell? (aa b 8)=some (aj m.er)
theorem gL.bU{w w' row b m}(h:gL w b m)(a:w.grownBy w' row)(c:b<w.heap.size)(d:some b≠row):gL w' b m:=by obtain⟨h0,e,f,g,i,j,k,l,n⟩:=h;exact⟨(a.cell_far _ c d).trans h0,(a.cell_far _ c d).trans e,(a.cell_far _ c d).trans f,(a.cell_far _ c d).trans g,(a.cell_far _ c d).trans i,(a.cell_far _ c d).trans j,(a.cell_far _ c d).trans k,(a.cell_far _ c d).trans l,(a.cell_far _ c d).trans n⟩
theorem gL.later{w w' b m}(h:gL w b m)(a:aB w w')(d:b<w.heap.size):gL w' b m:=
 h.bU (row:=none) ⟨a.os,a.tape,a.output,a.size,fun j c _=>a.block j c⟩ d aq
abbrev jc(rb b:Nat)(sz:Int)(m:aQ)(W:an):Prop:=W.cell? (aa rb 0)=some (aj sz)/\gL W b m/\W.frozen? (aa b 8)=false
theorem jc.later{rb b sz m W W'}(h:jc rb b sz m W)(a:aB W W'):jc rb b sz m W':=by have c:=iu h.2.1.1;exact⟨(a.cell (iu h.1)).trans h.1,h.2.1.later a c,(a.frozen c).trans h.2.2⟩
theorem ED{W:an}{b:Nat}(m)(h:∀j,j<9->(W.cell? (aa b j)).isSome=true):gL (W.setCells b 0 m.cells) b m:=by have key:=World.cell?_setCells_in b m.cells 0 W (fun j a=>by simpa using h j a);exact⟨key 0 (by simp[aQ.cells]),key 1 (by simp[aQ.cells]),key 2 (by simp[aQ.cells]),key 3 (by simp[aQ.cells]),key 4 (by simp[aQ.cells]),key 5 (by simp[aQ.cells]),key 6 (by simp[aQ.cells]),key 7 (by simp[aQ.cells]),key 8 (by simp[aQ.cells])⟩
theorem RJ{W b m}(h:gL W b m)(tmps v)(a:tmps.getD 4 undef=aF b)(c:tmps.getD 5 undef=v):
  (results f230 tmps).run prog W=.ok (.tuple #[m.val,v]) W:=by
 obtain⟨h0,d,e,f,g,i,j,k,l⟩:=h;simp at a c;simp[results,results230,go_sem,a,c,h0,d,e,f,g,i,j,k,l]
theorem abz{w w1:an}{o:Obj}(a:aB (w.alloc o) w1){m:aQ}(c:o=.cells (eU m) 132):∀j,j<9->(w1.cell? (aa w.heap.size j)).isSome=true:=fun j b=>by
 subst c;rw[a.cell aq]
 match j,b with
 |0,_|1,_|2,_|3,_|4,_|5,_|6,_|7,_|8,_=>simp[go_sem]
theorem Db{B b w W}(h:Below B w W)(a:B<=b)(m:aQ):Below B w (W.setCells b 0 m.cells):=Dc h a _ _ _ _ _ _ _ _ _
theorem Z5(rb s w)(a:s.size<9):
  bz 230 #[aF rb,.string s] w (.tuple #[aQ.zero.val,aj 0]):=by
 go_enter func230,ntmps230;go_wp2;exact fX (by simp[results,results230,go_sem,aQ.zero]) rfl ⟨rfl,aR⟩
theorem Z8(rb mb sz mx ph us s w)(b:s.size<=bT)(c:9<=s.size)(hR:dz w rb mb sz mx ph us)(hc:bt s 0≠81\/mx<two s 7\/two s 3∈us):
  Calls prog 230 #[aF rb,.string s] w fun e a=>e=.panicked [{v:=nQ 9,recovered:=false}]/\aB w a:=by
 have g:Hid (∀W,aB w W->Calls prog 260 #[aF rb,.string s] W fun e a=>e=.panicked [{v:=nQ 9,recovered:=false}]/\aB W a):=fun W d=>by exact(DN rb mb sz mx ph us s W b c (hR.later d)).mono (fun e a h=>by rw[aM hc]at h;exact h)
 unfold bT at b;go_enter func230,ntmps230;go_wp2_with (go_at_call 260;refine(g.out _ (aR)).mono ?_;rintro e i ⟨rfl,f⟩);exact⟨rfl,rfl,aR.trans (f.mono aq)⟩
theorem Z7(rb mb:Nat)(sz f ph:Int)(us:List Int)(s:ByteArray)(w:an)(j:s.size<=bT)(l:9<=s.size)(hR:dz w rb mb sz f ph us)(hc:¬(bt s 0≠81\/f<two s 7\/two s 3∈us))(q:bt s 1=1)(u:(s.size:Int)<9+two s 7):
  bz 230 #[aF rb,.string s] w (.tuple #[aQ.zero.val,aj 0]):=by
 have p:Hid (∀W,aB w W->bz 260 #[aF rb,.string s] W (.agg (qC s))):=fun W n=>by exact(DN rb mb sz f ph us s W j l (hR.later n)).mono (fun e B h=>by rw[aD hc]at h;exact h)
 have A:=kG s 7;have z:(bt s 1==1)=true:=by simpa using q
 unfold bT at j;go_enter func230,ntmps230;go_wp2_with (go_at_call 260;refine(p.out _ (aR)).mono ?_;rintro e a ⟨rfl,d⟩;obtain⟨r,t⟩:=jY d;have k:w.heap.size<a.heap.size:=(by have:=d.size;simp at this;omega);have x:∀(c:Obj) (o:Nat),(a.alloc c).cell? (aa w.heap.size o)=a.cell? (aa w.heap.size o):=(fun c o=>fC (Below.heap_alloc a c _ k));have y:∀(c:Obj) (o:Nat),(a.alloc c).frozen? (aa w.heap.size o)=a.frozen? (aa w.heap.size o):=(fun c o=>World.frozen?_of_block (Below.heap_alloc a c _ k)));have g:=ED aQ.zero (abz (m:=aQ.zero) d rfl);have i:w.heap.size<(a.setCells w.heap.size 0 aQ.zero.cells).heap.size:=iu g.1
 exact fX (v:=.tuple #[aQ.zero.val,aj 0]) (RJ (b:=w.heap.size) (m:=aQ.zero) (gL.later (w:=a.setCells w.heap.size 0 aQ.zero.cells) g (aR) i) _ _ rfl rfl) rfl
  ⟨rfl,(Db (aR.trans (d.mono aq)) (aV _) aQ.zero).alloc (mg i) _⟩
theorem RG{W:an}{rb b:Nat}{sz:Int}{m:aQ}{d:ByteArray}(h:W.cell? (aa rb 0)=some (aj sz))(i:rb≠b)(a:W.heap[b]? =some (.cells (ji m.wh m.nm m.kd m.fl m.ck m.of m.ln ⟨#[]⟩ m.er) 132 (0,0))):
  jc rb b sz {m with dt:=d} (W.setCell (aa b 7) (.string d)).drew:=by
 refine⟨(Mt W ⟨b,7,none⟩ ⟨rb,0,none⟩ _ (cW i)).trans h,?_,?_⟩
 ·have f:∀j,j≠7->((W.setCell (aa b 7) (.string d)).drew).cell? (aa b j)=W.cell? (aa b j):=fun j g=>Vg W ⟨b,7,none⟩ ⟨b,j,none⟩ _ (fun e=>g (by cases e;rfl));have c:((W.setCell (aa b 7) (.string d)).drew).cell? (aa b 7)=some (.string d):=Gt W ⟨b,7,none⟩ _ (by simp[eO,a]);refine⟨?_,?_,?_,?_,?_,?_,?_,c,?_⟩<;>(rw[f _ cq];simp[eO,a])
 ·show(W.setCell (aa b 7) (.string d)).frozen? (aa b 8)=false;rw[Mu];simp[oK,a]
theorem jc.err{rb b sz m W}(h:jc rb b sz m W)(e):gL (W.setCell (aa b 8) (aj e)) b {m with er:=e}:=by obtain⟨_,⟨h0,c,d,f,g,i,k,l,n⟩,_⟩:=h;have a:∀j,j≠8->(W.setCell (aa b 8) (aj e)).cell? (aa b j)=W.cell? (aa b j):=fun j o=>Vg W ⟨b,8,none⟩ ⟨b,j,none⟩ _ (fun e=>o (by cases e;rfl));exact⟨(a 0 cq).trans h0,(a 1 cq).trans c,(a 2 cq).trans d,(a 3 cq).trans f,(a 4 cq).trans g,(a 5 cq).trans i,(a 6 cq).trans k,(a 7 cq).trans l,Gt W ⟨b,8,none⟩ _ (by rw[n];rfl)⟩
theorem Df{W:an}{b a j:Nat}{o:Obj}{v:au}(h:W.heap[b]? =some o)(c:b≠a):(W.setCell (aa a j) v).heap[b]? =some o:=(Below.heap_setCell W ⟨a,j,none⟩ v b c).trans h
theorem Hj{W b}(h:W.heap[b]? =some (.cells (fW) 132 (0,0))):gL W b aQ.zero:=by refine⟨?_,?_,?_,?_,?_,?_,?_,?_,?_⟩<;>simp[eO,h,aQ.zero]
theorem Dh{W:an}{b:Nat}(h:W.heap[b]? =some (.cells (fW) 132 (0,0))):∀j,j<9->(W.cell? (aa b j)).isSome=true:=fun j a=>by
 match j,a with
 |0,_|1,_|2,_|3,_|4,_|5,_|6,_|7,_|8,_=>simp[eO,h]
theorem RH{w W:an}(m:aQ)(tmps:Array au)(v:au)(a:tmps.getD 4 undef=aF w.heap.size)(b:tmps.getD 5 undef=v)(d:∀j,j<9->(W.cell? (aa w.heap.size j)).isSome=true)(c:aB w W):
  Gv prog f230 (fun e f=>e=.returned (.tuple #[m.val,v])/\aB w f) Exit.ret {tmps:=tmps,defers:=[]}
   (((((((((W.setCell (aa w.heap.size 0) (aj m.wh)).setCell (aa w.heap.size 1) (.string m.nm)).setCell (aa w.heap.size 2) (aj m.kd)).setCell (aa w.heap.size 3) (aj m.fl)).setCell (aa w.heap.size 4) (aj m.ck)).setCell (aa w.heap.size 5) (aj m.of)).setCell (aa w.heap.size 6) (aj m.ln)).setCell (aa w.heap.size 7) (.string m.dt)).setCell (aa w.heap.size 8) (aj m.er)):=
 fX (RJ (ED m d) tmps v a b) rfl ⟨rfl,Db c (aV _) m⟩
theorem Dg{W W'}{b:Nat}{o:Obj}(h:W.heap[b]? =some o)(a:aB W W'):W'.heap[b]? =some o:=(a.block b (aP.1 h).1).trans h
theorem Z9(rb mb:Nat)(sz v ph:Int)(us:List Int)(s:ByteArray)(w:an)(J:s.size<=bT)(R:9<=s.size)(hR:dz w rb mb sz v ph us)(hc:¬(bt s 0≠81\/v<two s 7\/two s 3∈us))(H:bt s 1=1)(hl:¬(s.size:Int)<9+two s 7)(PO:s.size<=281474976710656):
  bz 230 #[aF rb,.string s] w (.tuple #[aQ.val ⟨3,⟨#[]⟩,bt s 1,bt s 2,two s 3,two s 5,two s 7,s.extract 9 (9+two s 7).toNat,ko (mG s (s.extract 9 (9+two s 7).toNat) 0) sz⟩,aj (9+two s 7)]):=by
 have G:Hid (∀W,aB w W->bz 260 #[aF rb,.string s] W (.agg (qC s))):=fun W U=>by exact(DN rb mb sz v ph us s W J R (hR.later U)).mono (fun e k h=>by rw[aD hc]at h;exact h)
 have M:=kG s 5;have N:=kG s 7;have kb:(bt s 1==1)=true:=by simpa using H
 have i9:(9:Int)<=s.size:=ak;have F:=hR.cell;have aH:=hR.lt.1;have x:=aL F.1;unfold bT at J;clear hR hc F;clear H;go_enter func230,ntmps230
 go_upto_region 10 with(first|(go_at_call 260;refine(G.out _ (aR)).mono ?_;rintro e a ⟨rfl,o⟩;obtain⟨V,Y⟩:=jY o;have r:w.heap.size<a.heap.size:=(by have:=o.size;simp at this;omega))|(go_at_call 117;refine(Hq _ _ (by simp<;>omega)).mono ?_;rintro e c ⟨rfl,n⟩;obtain⟨X,Z⟩:=jY n))
 have z:aB w a:=aR.trans (o.mono aq);have u:aB w c:=(z.alloc (mg r) _).trans (n.mono (by simp;exact mg (Cd r)));have qz:a.heap.size<c.heap.size:=by have:=n.size;simp at this;omega
 have I:c.heap[a.heap.size]? =some (.cells (qC s) 132 (0,0)):=(n.block _ aq).trans (bW a _);have g:c.heap[w.heap.size]? =some (.cells (fW) 132 (0,0)):=(n.block _ bK).trans ((Below.heap_alloc _ _ _ r).trans ((o.block _ aq).trans (bW w _)));have E:jc rb a.heap.size sz (mG s (s.extract 9 (9+two s 7).toNat) 0) (c.setCell (aa a.heap.size 7) (.string (s.extract 9 (9+two s 7).toNat))).drew:=RG (W:=c) (rb:=rb) (b:=a.heap.size) (m:=⟨3,⟨#[]⟩,bt s 1,bt s 2,two s 3,two s 5,two s 7,⟨#[]⟩,0⟩) (d:=(s.extract 9 (9+two s 7).toNat)) (((u.cell (p:=aa rb 0) aH).trans x.out)) ak I;have y:Hid ((c.setCell (aa a.heap.size 7) (.string (s.extract 9 (9+two s 7).toNat))).heap[w.heap.size]? =some (.cells (fW) 132 (0,0))):=Df g ak;have t:Hid (aB w (c.setCell (aa a.heap.size 7) (.string (s.extract 9 (9+two s 7).toNat)))):=u.setCell (p:=aa a.heap.size 7) (mg r) _;clear V Y X Z o n z u I g;have l:Hid (jc rb a.heap.size sz (mG s (s.extract 9 (9+two s 7).toNat) 0) (c.setCell (aa a.heap.size 7) (.string (s.extract 9 (9+two s 7).toNat))).drew):=E;obtain⟨C,⟨ah,av,ay,az,aA,DU,aC,aE,aG⟩,D⟩:=E
 go_cut [7] (fun q k=>q=aj (9+two s 7)/\gL k a.heap.size ⟨3,⟨#[]⟩,bt s 1,bt s 2,two s 3,two s 5,two s 7,s.extract 9 (9+two s 7).toNat,ko (mG s (s.extract 9 (9+two s 7).toNat) 0) sz⟩/\aB w k/\k.heap[w.heap.size]? =some (.cells (fW) 132 (0,0)))
 case first=>
  refine dR (S:=fun k=>k.cell? (aa rb 0)=some (aj sz)/\k.frozen? (aa a.heap.size 8)=false) ⟨C,D⟩ fun T=>?_;refine tk 1 ?_;refine tk 2 ?_;refine tk 3 ?_;refine tk 4 ?_;refine rH 0 fun K f=>?_;go_simp;refine f.out _ _ (T) (fun aO=>?_);clear f K;refine rH 5 fun K f=>?_;go_simp
  (refine(Ou (mG s (s.extract 9 (9+two s 7).toNat) 0) sz _ M.1 M.2 N.1 N.2).mono ?_;rintro e O ⟨rfl,i⟩;have aT:O.cell? (aa a.heap.size 8)=some (aj 0):=(jc.later l.out i).2.1.2.2.2.2.2.2.2.2;have aU:O.frozen? (aa a.heap.size 8)=false:=(jc.later l.out i).2.2)
  go_wp2_with fail;refine f.out _ _ (⟨(jc.later l.out i).1,(jc.later l.out i).2.2⟩) (fun B=>?_);clear f K;refine tk 6 ?_;refine rH 7 fun K f=>?_;go_simp;refine f.out _ _ (⟨(Mt _ ⟨a.heap.size,8,none⟩ ⟨rb,0,none⟩ _ (by show a.heap.size≠rb;omega)).trans B.1,(Mu _ _ _ _).trans B.2⟩) (fun Zz=>?_);clear f K;refine cK ?_
  (go_wp2_with fail;go_meet;case rel=>exact⟨rfl,(jc.later l.out i).err _,((t.out.drew).trans (i.mono (by exact t.out.size))).setCell (p:=aa a.heap.size 8) (mg r) _,Df (Dg (by exact y.out) i) ak⟩)
 case rest=>
  clear ah av ay az aA DU aC aE aG C D l y t x G;obtain⟨rfl,⟨z0,z1,z2,z3,z4,z5,z6,z7,z8⟩,A,g⟩:=hcut;have L:∀j,j<9->(wc.cell? (aa w.heap.size j)).isSome=true:=fun j hj=>Dh g j hj;have Q:Hid (∀j,j<9->(wc.cell? (aa w.heap.size j)).isSome=true):=L;obtain⟨p0,p1,p2,p3,p4,p5,p6,p7,p8⟩:=Hj g;have pf:∀j,wc.frozen? (aa w.heap.size j)=false:=fun j=>by simp[oK,g]
  have aI:Hid (wc.heap[w.heap.size]? =some (.cells (fW) 132 (0,0))):=g;have P:Hid (aB w wc):=A;clear g L A;go_wp2;exact RH (W:=wc) ⟨3,⟨#[]⟩,bt s 1,bt s 2,two s 3,two s 5,two s 7,s.extract 9 (9+two s 7).toNat,ko (mG s (s.extract 9 (9+two s 7).toNat) 0) sz⟩ _ _ rfl rfl Q.out P.out
theorem Z6(rb mb:Nat)(sz v ph:Int)(us:List Int)(s:ByteArray)(w:an)(J:s.size<=bT)(R:9<=s.size)(hR:dz w rb mb sz v ph us)(hc:¬(bt s 0≠81\/v<two s 7\/two s 3∈us))(H:¬bt s 1=1)(PO:s.size<=281474976710656):
  bz 230 #[aF rb,.string s] w (.tuple #[aQ.val ⟨3,⟨#[]⟩,bt s 1,bt s 2,two s 3,two s 5,two s 7,ny,ko (mG s ny 0) sz⟩,aj 9]):=by
 have G:Hid (∀W,aB w W->bz 260 #[aF rb,.string s] W (.agg (qC s))):=fun W U=>by exact(DN rb mb sz v ph us s W J R (hR.later U)).mono (fun e k h=>by rw[aD hc]at h;exact h)
 have M:=kG s 5;have N:=kG s 7;have kb:(bt s 1==1)=false:=by simpa using H
 have i9:(9:Int)<=s.size:=ak;have F:=hR.cell;have aH:=hR.lt.1;have x:=aL F.1;unfold bT at J;clear hR hc F;clear H;go_enter func230,ntmps230
 go_upto_region 10 with(first|(go_at_call 260;refine(G.out _ (aR)).mono ?_;rintro e a ⟨rfl,o⟩;obtain⟨V,Y⟩:=jY o;have r:w.heap.size<a.heap.size:=(by have:=o.size;simp at this;omega))|(go_at_call 117;refine(Hq _ _ (by simp<;>omega)).mono ?_;rintro e c ⟨rfl,n⟩;obtain⟨X,Z⟩:=jY n))
 have z:aB w a:=aR.trans (o.mono aq);have u:aB w c:=(z.alloc (mg r) _).trans (n.mono (by simp;exact mg (Cd r)));have qz:a.heap.size<c.heap.size:=by have:=n.size;simp at this;omega
 have I:c.heap[a.heap.size]? =some (.cells (qC s) 132 (0,0)):=(n.block _ aq).trans (bW a _);have g:c.heap[w.heap.size]? =some (.cells (fW) 132 (0,0)):=(n.block _ bK).trans ((Below.heap_alloc _ _ _ r).trans ((o.block _ aq).trans (bW w _)));have E:jc rb a.heap.size sz (mG s ny 0) (c.setCell (aa a.heap.size 7) (.string (ny))).drew:=RG (W:=c) (rb:=rb) (b:=a.heap.size) (m:=⟨3,⟨#[]⟩,bt s 1,bt s 2,two s 3,two s 5,two s 7,⟨#[]⟩,0⟩) (d:=(ny)) (((u.cell (p:=aa rb 0) aH).trans x.out)) ak I;have y:Hid ((c.setCell (aa a.heap.size 7) (.string (ny))).heap[w.heap.size]? =some (.cells (fW) 132 (0,0))):=Df g ak;have t:Hid (aB w (c.setCell (aa a.heap.size 7) (.string (ny)))):=u.setCell (p:=aa a.heap.size 7) (mg r) _;clear V Y X Z o n z u I g;have l:Hid (jc rb a.heap.size sz (mG s ny 0) (c.setCell (aa a.heap.size 7) (.string (ny))).drew):=E;obtain⟨C,⟨ah,av,ay,az,aA,DU,aC,aE,aG⟩,D⟩:=E
 go_cut [7] (fun q k=>q=aj 9/\gL k a.heap.size ⟨3,⟨#[]⟩,bt s 1,bt s 2,two s 3,two s 5,two s 7,ny,ko (mG s ny 0) sz⟩/\aB w k/\k.heap[w.heap.size]? =some (.cells (fW) 132 (0,0)))
 case first=>
  refine dR (S:=fun k=>k.cell? (aa rb 0)=some (aj sz)/\k.frozen? (aa a.heap.size 8)=false) ⟨C,D⟩ fun T=>?_;refine tk 1 ?_;refine tk 2 ?_;refine tk 3 ?_;refine tk 4 ?_;refine rH 0 fun K f=>?_;go_simp;refine f.out _ _ (T) (fun aO=>?_);clear f K;refine rH 5 fun K f=>?_;go_simp
  (refine(Ou (mG s ny 0) sz _ M.1 M.2 N.1 N.2).mono ?_;rintro e O ⟨rfl,i⟩;have aS:O.cell? (aa a.heap.size 8)=some (aj 0):=(jc.later l.out i).2.1.2.2.2.2.2.2.2.2;have aT:O.frozen? (aa a.heap.size 8)=false:=(jc.later l.out i).2.2)
  go_wp2_with fail;refine f.out _ _ (⟨(jc.later l.out i).1,(jc.later l.out i).2.2⟩) (fun B=>?_);clear f K;refine tk 6 ?_;refine rH 7 fun K f=>?_;go_simp;refine f.out _ _ (⟨(Mt _ ⟨a.heap.size,8,none⟩ ⟨rb,0,none⟩ _ (by show a.heap.size≠rb;omega)).trans B.1,(Mu _ _ _ _).trans B.2⟩) (fun Zz=>?_);clear f K;refine cK ?_
  (go_wp2_with fail;go_meet;case rel=>exact⟨rfl,(jc.later l.out i).err _,((t.out.drew).trans (i.mono (by exact t.out.size))).setCell (p:=aa a.heap.size 8) (mg r) _,Df (Dg (by exact y.out) i) ak⟩)
 case rest=>
  clear ah av ay az aA DU aC aE aG C D l y t x G;obtain⟨rfl,⟨z0,z1,z2,z3,z4,z5,z6,z7,z8⟩,A,g⟩:=hcut;have L:∀j,j<9->(wc.cell? (aa w.heap.size j)).isSome=true:=fun j hj=>Dh g j hj;have Q:Hid (∀j,j<9->(wc.cell? (aa w.heap.size j)).isSome=true):=L;obtain⟨p0,p1,p2,p3,p4,p5,p6,p7,p8⟩:=Hj g;have pf:∀j,wc.frozen? (aa w.heap.size j)=false:=fun j=>by simp[oK,g]
  have aI:Hid (wc.heap[w.heap.size]? =some (.cells (fW) 132 (0,0))):=g;have P:Hid (aB w wc):=A;clear g L A;go_wp2;exact RH (W:=wc) ⟨3,⟨#[]⟩,bt s 1,bt s 2,two s 3,two s 5,two s 7,ny,ko (mG s ny 0) sz⟩ _ _ rfl rfl Q.out P.out
theorem Tv(s sz d)(a:0<=sz):ko (mG s d 0) sz=verdict sz (bt s 1) (bt s 2) (two s 5) (two s 7):=
 Yf _ sz (nR s 1).1 (nR s 2).1 a
theorem RI(rb mb sz mx ph us s w)(k:0<=sz)(j:s.size<=281474976710656)(hR:dz w rb mb sz mx ph us):
  Calls prog 230 #[aF rb,.string s] w fun e d=>Ends (lA sz mx us s) e/\aB w d:=by
 have i:s.size<=bT:=by unfold bT;omega
 by_cases b:s.size<9
 ·refine(Z5 rb s w b).mono fun e d h=>⟨.inr ?_,h.2⟩;unfold lA;rw[aM b];exact⟨cq,h.1⟩
 ·have f:9<=s.size:=ak
  by_cases a:bt s 0≠81\/mx<two s 7\/two s 3∈us
  ·refine(Z8 rb mb sz mx ph us s w i f hR a).mono fun e d h=>⟨.inl ?_,h.2⟩;unfold lA;rw[aD b,aM a];exact⟨rfl,h.1⟩
  ·by_cases c:bt s 1=1
   ·by_cases g:(s.size:Int)<9+two s 7
    ·refine(Z7 rb mb sz mx ph us s w i f hR a c g).mono fun e d h=>⟨.inr ?_,h.2⟩;unfold lA;rw[aD b,aD a,aM c,aM g];exact⟨cq,h.1⟩
    ·refine(Z9 rb mb sz mx ph us s w i f hR a c g j).mono fun e d h=>⟨.inr ?_,h.2⟩;unfold lA;rw[aD b,aD a,aM c,aD g];refine⟨show(3:Int)≠4 by decide,?_⟩;rw[h.1,Tv s sz _ k]
   ·refine(Z6 rb mb sz mx ph us s w i f hR a c j).mono fun e d h=>⟨.inr ?_,h.2⟩;unfold lA;rw[aD b,aD a,aD c];refine⟨show(3:Int)≠4 by decide,?_⟩;rw[h.1,Tv s sz _ k];rfl
theorem aay(n w):(BO (nQ n) 20 294 true).run prog w=.ok (.tuple #[.agg #[aj n],.bool true]) w:=by simp[BO,MC underlying294,go_sem,Result.andThen]
theorem WW(n w):
  bz 227 #[nQ n] w (.tuple #[aQ.closing.val,aj n]):=by
 have a:=aay n;go_enter func227,ntmps227;go_wp2
 go_region
 all_goals (go_wp2)
 exact fX (by simp[results,results227,go_sem,aQ.closing]) rfl ⟨rfl,(aR.alloc aq _).drew⟩
theorem AK(W:an)(b j:Nat)(v:au):W.grownBy (W.setCell (aa b j) v) (some b):=⟨rfl,rfl,rfl,by simp[fD],fun k _ a=>Below.heap_setCell W ⟨b,j,none⟩ v k (fun e=>a (by rw[e]))⟩
theorem NZ(p q w):
  CallsD prog 226 #[.pointer (some p),.pointer (some q)] .returning w fun e c d=>e=.returned (.tuple #[])/\c=.returning/\d=w:=by
 refine callsD_of_wpS func226 rfl fun a cs b=>?_;apply wpS_seq;apply GK;simp[wpOpsS,go_sem,recoverD,b,ntmps226,FT];apply wpS_seq;apply GK;simp[wpOpsS,go_sem,FT];refine wpS_cond (t:=false) (by simp[Act.eval,pR]) ?_;simp;refine wpS_of_wp (wp_skip ?_);cases a
 simp_all[bodyPostS,results,results226]
theorem XG(a bn:Nat)(n:Int)(q:List PanicEntry)(w:an)(m:a≠bn)(hm:w.heap[a]? =some (.cells (fW) 132 (0,0)))(l:w.heap[bn]? =some (.cells #[aj 0] 3 (0,0))):
  CallsD prog 226 #[aF a,aF bn] (.panicking ({v:=nQ n,recovered:=false}::q)) w fun e A i=>
   e=.returned (.tuple #[])/\A=.panicking ({v:=nQ n,recovered:=true}::q)/\gL i a aQ.closing/\i.cell? (aa bn 0)=some (aj n)/\∀B,B<=a->B<=bn->B<=w.heap.size->Below B w i:=by
 refine callsD_of_wpS func226 rfl fun D cs o=>?_;apply wpS_seq;apply GK;simp[wpOpsS,go_sem,recoverD,o,ntmps226,FT];apply wpS_seq;apply GK;simp[wpOpsS,go_sem,FT];refine wpS_cond (t:=true) (by simp[Act.eval,pR]) ?_;simp only[cD];refine wpS_of_wp ?_;simp only[tR,tS,ud,pW,jR,tX,qR,qT,qS];have HM:=aL hm;have s:=aL l;clear hm l o;go_wp2_with (go_at_call 227;refine(WW n _).mono ?_;rintro e c ⟨rfl,g⟩;have d:=Dg HM.out g;have f:=Dg s.out g;obtain⟨E,F,G,H,I,J,K,L,M⟩:=Hj d;have N:∀j,c.frozen? (aa a j)=false:=(fun j=>by simp[oK,d]);have z:c.cell? (aa bn 0)=some (aj 0):=(by simp[eO,f]);have O:c.frozen? (aa bn 0)=false:=(by simp[oK,f]);have r:=aL d;have C:=aL f;clear d f);have k:=ED (W:=c) (b:=a) aQ.closing (Dh r.out);refine⟨rfl,_,rfl,.tuple #[],by simp[results,results226],rfl,rfl,?_,?_,?_⟩
 ·exact gL.bU (w:=c.setCells a 0 aQ.closing.cells) (row:=some bn) k (AK _ _ _ _) (iu k.1) (by simp;exact m)
 ·refine Gt (c.setCells a 0 aQ.closing.cells) ⟨bn,0,none⟩ _ ?_;have e:(c.setCells a 0 aQ.closing.cells).cell? (aa bn 0)=c.cell? (aa bn 0):=Vh a aQ.closing.cells 0 c ⟨bn,0,none⟩ (fun h=>absurd h (cW m));rw[e,z];rfl
 ·intro B u x y;exact(Db (g.mono y) u aQ.closing).setCell (p:=aa bn 0) x _
theorem Ia{f args w m n}(h:Calls prog f args w fun e a=>Ends (m,n) e/\aB w a)(hr:m.wh≠4):
  Calls prog f args w fun e a=>e=.returned (.tuple #[.agg (eU m),aj n])/\aB w a:=
 h.mono fun e a h=>by
  obtain⟨⟨b,_⟩|⟨_,c⟩,d⟩:=h
  ·exact absurd (by rw[show m=aQ.closing from b];rfl) hr
  ·exact⟨c,d⟩
theorem Hz{f args w m n}(h:Calls prog f args w fun e a=>Ends (m,n) e/\aB w a)(hr:m.wh=4):
  Calls prog f args w fun e a=>e=.panicked [{v:=nQ n,recovered:=false}]/\(m=.closing/\aB w a):=
 h.mono fun e a h=>by
  obtain⟨⟨b,c⟩|⟨b,_⟩,d⟩:=h
  ·exact⟨c,b,d⟩
  ·exact absurd hr b
theorem Ka{W b bn m n}(h:gL W b m)(o:W.cell? (aa bn 0)=some (aj n))(tmps)(a:tmps.getD 4 undef=aF b)(c:tmps.getD 5 undef=aF bn):
  (results f190 tmps).run prog W=.ok (.tuple #[m.val,aj n]) W:=by
 obtain⟨h0,d,e,f,g,i,j,k,l⟩:=h;simp at a c;simp[results,results190,go_sem,a,c,h0,d,e,f,g,i,j,k,l,o]
abbrev Jy(w:an):an:=(w.alloc (.cells (fW) 132)).alloc (.cells #[aj 0] 3)
theorem QT{w w1}(a:aB (Jy w) w1):w1.heap[w.heap.size]? =some (.cells (fW) 132 (0,0))/\w1.heap[w.heap.size+1]? =some (.cells #[aj 0] 3 (0,0))/\aB w w1:=by
 refine⟨?_,?_,?_⟩
 ·rw[a.block _ bK,Below.heap_alloc _ _ _ aq];exact bW w _
 ·rw[a.block _ aq];have:=bW (w.alloc (.cells (fW) 132)) (.cells #[aj 0] 3)
  rwa [World.size_alloc]at this
 ·exact(aR.alloc aq _).trans (a.mono bK)
theorem JA{w w1}{m:aQ}{n:Int}(tmps)(c:tmps.getD 4 undef=aF w.heap.size)(d:tmps.getD 5 undef=aF (w.heap.size+1))(j:aB (Jy w) w1):
  bodyPostD prog f190 (fun e o=>e=.returned (.tuple #[m.val,aj n])/\aB w o) Exit.ret
   {tmps:=tmps,defers:=[{target:=.fn (.func 226) #[aF w.heap.size,aF (w.heap.size+1)],args:=#[]}]}
   ((((((((((w1.setCell (aa w.heap.size 0) (aj m.wh)).setCell (aa w.heap.size 1) (.string m.nm)).setCell (aa w.heap.size 2) (aj m.kd)).setCell (aa w.heap.size 3) (aj m.fl)).setCell (aa w.heap.size 4) (aj m.ck)).setCell (aa w.heap.size 5) (aj m.of)).setCell (aa w.heap.size 6) (aj m.ln)).setCell (aa w.heap.size 7) (.string m.dt)).setCell (aa w.heap.size 8) (aj m.er)).setCell (aa (w.heap.size+1) 0) (aj n)):=by
 obtain⟨hm,k,i⟩:=QT j;have a:=ED m (Dh hm)
 have g:gL ((w1.setCells w.heap.size 0 m.cells).setCell (aa (w.heap.size+1) 0) (aj n)) w.heap.size m:=
  gL.bU (row:=some (w.heap.size+1)) a (AK _ _ _ _) (iu a.1) aq
 have l:((w1.setCells w.heap.size 0 m.cells).setCell (aa (w.heap.size+1) 0) (aj n)).cell? (aa (w.heap.size+1) 0)=some (aj n):=by refine Gt (w1.setCells w.heap.size 0 m.cells) ⟨w.heap.size+1,0,none⟩ _ ?_;have e:(w1.setCells w.heap.size 0 m.cells).cell? (aa (w.heap.size+1) 0)=w1.cell? (aa (w.heap.size+1) 0):=Vh w.heap.size m.cells 0 w1 ⟨w.heap.size+1,0,none⟩ (fun h=>absurd h aq);rw[e];simp[eO,k]
 refine MA (f:=226) (args:=#[aF w.heap.size,aF (w.heap.size+1)]) aq (by simp[go_sem]) ?_;refine(NZ _ _ _).mono ?_;rintro e q r ⟨rfl,rfl,rfl⟩;exact⟨_,Ka (b:=w.heap.size) (bn:=w.heap.size+1) (m:=m) (n:=n) g l _ c d,rfl,(Db i (aV _) m).setCell (p:=aa (w.heap.size+1) 0) (ju _) _⟩
theorem Jz{w w1}{m:aQ}{n:Int}(k:m=.closing)(tmps)(c:tmps.getD 4 undef=aF w.heap.size)(d:tmps.getD 5 undef=aF (w.heap.size+1))(i:aB (Jy w) w1):
  bodyPostD prog f190 (fun e o=>e=.returned (.tuple #[m.val,aj n])/\aB w o) (Exit.panic [{v:=nQ n,recovered:=false}])
   {tmps:=tmps,defers:=[{target:=.fn (.func 226) #[aF w.heap.size,aF (w.heap.size+1)],args:=#[]}]} w1:=by
 subst k;obtain⟨hm,l,a⟩:=QT i;refine MA (f:=226) (args:=#[aF w.heap.size,aF (w.heap.size+1)]) aq (by simp[go_sem]) ?_;refine(XG w.heap.size (w.heap.size+1) n [] w1 ak hm l).mono ?_;rintro e p q ⟨rfl,rfl,g,j,h⟩;exact⟨_,Ka (b:=w.heap.size) (bn:=w.heap.size+1) (m:=aQ.closing) (n:=n) g j _ c d,rfl,a.trans (h _ (aV _) (ju _) a.size)⟩
theorem J4(rb s w)(i:s.size<=bT)(h:w.cell? (aa rb 2)=some (aj 0))(m n)(g:mC s=(m,n))(j:m.wh≠4):
  bz 190 #[aF rb,.string s] w (.tuple #[m.val,aj n]):=by
 have p:∀(b:Fn) (first a:Array au) (w:an),(rV b first a).run prog w=.ok (.func b first a) w:=fun _ _ _ _=>rfl;have f:Hid (∀W,aB w W->bz 228 #[.string s] W (.tuple #[.agg (eU m),aj n])):=fun W k=>Ia (by rw[<-g];exact Pn s W i) j;have q:=iu h;have r:¬rb=w.heap.size:=ak;have t:¬rb=w.heap.size+1:=ak;have d:Hid (aB w ((w.alloc (.cells (fW) 132)).alloc (.cells #[aj 0] 3))):=aR.alloc aq _
 go_enter_defers func190,ntmps190
 go_wp2_with (go_at_call 228;refine(f.out _ d.out).mono ?_;rintro e u ⟨rfl,c⟩;obtain⟨l,o⟩:=jY c);exact JA _ rfl rfl c
theorem J3(rb s w)(j:s.size<=bT)(i:w.cell? (aa rb 2)=some (aj 0))(m n)(h:mC s=(m,n))(k:m.wh=4):
  bz 190 #[aF rb,.string s] w (.tuple #[m.val,aj n]):=by
 have r:∀(b:Fn) (first a:Array au) (w:an),(rV b first a).run prog w=.ok (.func b first a) w:=fun _ _ _ _=>rfl;have f:Hid (∀W,aB w W->Calls prog 228 #[.string s] W fun e l=>e=.panicked [{v:=nQ n,recovered:=false}]/\(m=.closing/\aB W l)):=fun W o=>Hz (by rw[<-h];exact Pn s W j) k;have t:=iu i;have u:¬rb=w.heap.size:=ak;have x:¬rb=w.heap.size+1:=ak;have d:Hid (aB w ((w.alloc (.cells (fW) 132)).alloc (.cells #[aj 0] 3))):=aR.alloc aq _
 go_enter_defers func190,ntmps190
 go_wp2_with (go_at_call 228;refine(f.out _ d.out).mono ?_;rintro e y ⟨rfl,g,c⟩;obtain⟨p,q⟩:=jY c);exact Jz g _ rfl rfl c
theorem J8(rb s w)(i:s.size<=bT)(h:w.cell? (aa rb 2)=some (aj 1))(m n)(g:opt s=(m,n))(j:m.wh≠4):
  bz 190 #[aF rb,.string s] w (.tuple #[m.val,aj n]):=by
 have p:∀(b:Fn) (first a:Array au) (w:an),(rV b first a).run prog w=.ok (.func b first a) w:=fun _ _ _ _=>rfl;have f:Hid (∀W,aB w W->bz 229 #[.string s] W (.tuple #[.agg (eU m),aj n])):=fun W k=>Ia (by rw[<-g];exact Rh s W i) j;have q:=iu h;have r:¬rb=w.heap.size:=ak;have t:¬rb=w.heap.size+1:=ak;have d:Hid (aB w ((w.alloc (.cells (fW) 132)).alloc (.cells #[aj 0] 3))):=aR.alloc aq _
 go_enter_defers func190,ntmps190
 go_wp2_with (go_at_call 229;refine(f.out _ d.out).mono ?_;rintro e u ⟨rfl,c⟩;obtain⟨l,o⟩:=jY c);exact JA _ rfl rfl c
theorem J7(rb s w)(j:s.size<=bT)(i:w.cell? (aa rb 2)=some (aj 1))(m n)(h:opt s=(m,n))(k:m.wh=4):
  bz 190 #[aF rb,.string s] w (.tuple #[m.val,aj n]):=by
 have r:∀(b:Fn) (first a:Array au) (w:an),(rV b first a).run prog w=.ok (.func b first a) w:=fun _ _ _ _=>rfl;have f:Hid (∀W,aB w W->Calls prog 229 #[.string s] W fun e l=>e=.panicked [{v:=nQ n,recovered:=false}]/\(m=.closing/\aB W l)):=fun W o=>Hz (by rw[<-h];exact Rh s W j) k;have t:=iu i;have u:¬rb=w.heap.size:=ak;have x:¬rb=w.heap.size+1:=ak;have d:Hid (aB w ((w.alloc (.cells (fW) 132)).alloc (.cells #[aj 0] 3))):=aR.alloc aq _
 go_enter_defers func190,ntmps190
 go_wp2_with (go_at_call 229;refine(f.out _ d.out).mono ?_;rintro e y ⟨rfl,g,c⟩;obtain⟨p,q⟩:=jY c);exact Jz g _ rfl rfl c
theorem K3(rb s w mb sz mx us)(l:0<=sz)(i:s.size<=281474976710656)(hR:dz w rb mb sz mx 2 us)(j:w.cell? (aa rb 2)=some (aj 2))(m n)(h:lA sz mx us s=(m,n))(k:m.wh≠4):
  bz 190 #[aF rb,.string s] w (.tuple #[m.val,aj n]):=by
 have q:∀(b:Fn) (first a:Array au) (w:an),(rV b first a).run prog w=.ok (.func b first a) w:=fun _ _ _ _=>rfl;have f:Hid (∀W,aB w W->bz 230 #[aF rb,.string s] W (.tuple #[.agg (eU m),aj n])):=fun W g=>Ia (by rw[<-h];exact RI rb mb sz mx 2 us s W l i (hR.later g)) k;have r:=iu j;have t:¬rb=w.heap.size:=ak;have u:¬rb=w.heap.size+1:=ak;have d:Hid (aB w ((w.alloc (.cells (fW) 132)).alloc (.cells #[aj 0] 3))):=aR.alloc aq _
 go_enter_defers func190,ntmps190
 go_wp2_with (go_at_call 230;refine(f.out _ d.out).mono ?_;rintro e v ⟨rfl,c⟩;obtain⟨o,p⟩:=jY c);exact JA _ rfl rfl c
theorem J9(rb s w mb sz mx us)(o:0<=sz)(j:s.size<=281474976710656)(hR:dz w rb mb sz mx 2 us)(k:w.cell? (aa rb 2)=some (aj 2))(m n)(i:lA sz mx us s=(m,n))(l:m.wh=4):
  bz 190 #[aF rb,.string s] w (.tuple #[m.val,aj n]):=by
 have t:∀(b:Fn) (first a:Array au) (w:an),(rV b first a).run prog w=.ok (.func b first a) w:=fun _ _ _ _=>rfl;have f:Hid (∀W,aB w W->Calls prog 230 #[aF rb,.string s] W fun e p=>e=.panicked [{v:=nQ n,recovered:=false}]/\(m=.closing/\aB W p)):=fun W g=>Hz (by rw[<-i];exact RI rb mb sz mx 2 us s W o j (hR.later g)) l;have u:=iu k;have x:¬rb=w.heap.size:=ak;have y:¬rb=w.heap.size+1:=ak;have d:Hid (aB w ((w.alloc (.cells (fW) 132)).alloc (.cells #[aj 0] 3))):=aR.alloc aq _
 go_enter_defers func190,ntmps190
 go_wp2_with (go_at_call 230;refine(f.out _ d.out).mono ?_;rintro e z ⟨rfl,h,c⟩;obtain⟨q,r⟩:=jY c);exact Jz h _ rfl rfl c
theorem J5(rb s w ph)(h:w.cell? (aa rb 2)=some (aj ph))(h0:ph≠0)(d:ph≠1)(g:ph≠2):
  bz 190 #[aF rb,.string s] w (.tuple #[aQ.zero.val,aj 0]):=by
 have k:∀(c:Fn) (first a:Array au) (w:an),(rV c first a).run prog w=.ok (.func c first a) w:=fun _ _ _ _=>rfl;have l:=iu h;have o:¬rb=w.heap.size:=ak;have p:¬rb=w.heap.size+1:=ak;have i:(ph==0)=false:=by simpa using h0
 have b1:(ph==1)=false:=by simpa using d
 have j:(ph==2)=false:=by simpa using g
 go_enter_defers func190,ntmps190
 go_wp2;refine MA (f:=226) (args:=#[aF w.heap.size,aF (w.heap.size+1)]) aq (by simp[go_sem]) ?_;refine(NZ _ _ _).mono ?_;rintro e q r ⟨rfl,rfl,rfl⟩;exact⟨_,Ka (b:=w.heap.size) (bn:=w.heap.size+1) (m:=aQ.zero) (n:=0) (by simp[gL,go_sem,aQ.zero]) (by simp[go_sem]) _ rfl rfl,rfl,aR.alloc aq _⟩
theorem J2(rb mb sz mx ph us s w)(h:0<=sz)(g:s.size<=281474976710656)(hR:dz w rb mb sz mx ph us):
  bz 190 #[aF rb,.string s] w (.tuple #[(first sz mx ph us s).1.val,aj (first sz mx ph us s).2]):=by
 have c:s.size<=bT:=by unfold bT;omega
 have b:=hR.cell.2.2.1
 by_cases h0:ph=0
 ·subst h0;have e:first sz mx 0 us s=mC s:=by unfold first;simp
  rw[e]
  by_cases a:(mC s).1.wh=4
  ·exact J3 rb s w c b _ _ rfl a
  ·exact J4 rb s w c b _ _ rfl a
 ·by_cases d:ph=1
  ·subst d;have e:first sz mx 1 us s=opt s:=by unfold first;simp
   rw[e]
   by_cases a:(opt s).1.wh=4
   ·exact J7 rb s w c b _ _ rfl a
   ·exact J8 rb s w c b _ _ rfl a
  ·by_cases f:ph=2
   ·subst f;have e:first sz mx 2 us s=lA sz mx us s:=by unfold first;simp
    rw[e]
    by_cases a:(lA sz mx us s).1.wh=4
    ·exact J9 rb s w mb sz mx us h g hR b _ _ rfl a
    ·exact K3 rb s w mb sz mx us h g hR b _ _ rfl a
   ·have e:first sz mx ph us s=(.zero,0):=by unfold first;simp[h0,d,f]
    rw[e];exact J5 rb s w ph b h0 d f
def wy(w w':an)(rb mb:Nat):Prop:=∃row,w.grownBy w' row/\∀r,row=some r->r=rb\/r=mb
theorem aex{w mb us}(h:Uses w mb us)(ck)(g:0<=ck/\ck<=65535)(c:us.length<bT):
  ∃a,(Instr.mapUpdate 226 (.map (some mb)) (aj ck) (.agg #[])).run prog w=.ok () a/\Uses a mb (us++[ck])/\w.grownBy a (some mb):=by
 obtain⟨a,f,e,b⟩:=h.update (Cb underlying3) underlying226 c (kl:=.int .i64 ck) (d:=.agg []) (ps:=[]) (UP underlying3 (by simp[Lit.wf,IntKind.min,IntKind.max,Uw,Uv];omega)) unitElem_mk;refine⟨a,f,?_,b⟩;unfold Uses;rw[BV,ia,rZ,vQ,Maps.setOf_snoc];exact e
theorem dz.phase{w rb mb sz mx ph us}(h:dz w rb mb sz mx ph us)(p):dz (w.setCell (aa rb 2) (aj p)) rb mb sz mx p us:=by
 have b:mb≠rb:=fun e=>by obtain⟨d,c,a,_⟩:=h.uses;rw[e,h.box]at a;cases a
 refine⟨?_,h.uses.setCell b _⟩;have f:=h.lt.1;have a:=(aP.1 h.box).2;simp only[fD,kJ];simp[h.box]
theorem dz.frozen{w rb mb sz mx ph us}(h:dz w rb mb sz mx ph us):w.frozen? (aa rb 2)=false:=by simp[oK,h.box]
theorem dz.drew{w rb mb sz mx ph us}(h:dz w rb mb sz mx ph us):dz w.drew rb mb sz mx ph us:=⟨h.box,h.uses⟩
theorem Iq{R a w}(b:a.defers=[])(h:R (.returned (.tuple #[])) w):Gv prog f231 R LD a w:=
 ⟨b,.tuple #[],by simp[results,results231],h⟩
theorem YE(rb mb:Nat)(sz q ph:Int)(us:List Int)(m:aQ)(w:an)(hR:dz w rb mb sz q ph us)(x:0<=m.ck/\m.ck<=65535)(H:us.length<bT):
  Calls prog 231 #[aF rb,m.val] w fun e j=>e=.returned (.tuple #[])/\dz j rb mb sz q (if m.er=0/\m.kd=5 then 3 else ph) (if m.er=0/\m.kd≠5 then us++[m.ck]else us)/\wy w j rb mb:=by
 obtain⟨D,C,g,t,a,of,ln,s,o⟩:=m;dsimp only at x⊢;obtain⟨g0,Q,R,T⟩:=hR.cell;have X:=hR.lt.1;have q0:¬rb=w.heap.size:=ak;have f2:=hR.frozen;have n:=aL hR;clear hR;generalize h:(if o=0/\g=5 then 3 else ph)=P;generalize d:(if o=0/\g≠5 then us++[a]else us)=U
 by_cases i:o=0
 ·subst i
  by_cases f:g=5
  ·subst f;obtain rfl:3=P:=ak;obtain rfl:us=U:=by simpa using d
   clear h d;go_enter func231,ntmps231;go_wp2;refine Iq rfl ⟨rfl,?_,some rb,(AK w rb 2 _).trans (oM _ _ (some rb)),fun r e=>.inl (by cases e;rfl)⟩;exact(n.out.phase 3).kept (oM _ _ none) aq aq
  ·obtain rfl:ph=P:=by simpa[f]using h
   obtain rfl:us++[a]=U:=by simpa[f]using d
   clear h d;have Z:(g==5)=false:=by simpa using f
   have c:dz ((w.alloc (.cells (ji D C g t a of ln s 0) 132)).drew) rb mb sz q ph us:=(n.out.kept (oM _ _ none) aq aq).drew;obtain⟨l,Y,B,p⟩:=aex c.uses a x H
   have A:some rb≠some mb:=fun e=>by obtain⟨O,M,v,_⟩:=c.uses;cases e;rw[c.box]at v;cases v
   have y:dz l rb mb sz q ph (us++[a]):=⟨(p.block _ c.lt.1 A).trans c.box,B⟩;have J:wy w l rb mb:=⟨some mb,World.grownBy.trans (b:=(w.alloc (.cells (ji D C g t a of ln s 0) 132)).drew) ⟨rfl,rfl,rfl,aq,fun k G _=>Below.heap_alloc _ _ _ G⟩ p,fun r e=>.inr (by cases e;rfl)⟩;have F:=c.cell.2.2.2;have I:=n.out.lt.2;have z:l.cell? (aa w.heap.size 4)=some (aj a):=(fC (p.block _ aq (fun e=>absurd I (by cases e;exact sB _)))).trans (by simp[go_sem]);have E:Hid (l.cell? (aa rb 3)=some (.map (some mb))/\l.cell? (aa w.heap.size 4)=some (aj a)):=⟨y.cell.2.2.2,z⟩;clear z;have L:=aL f;clear f c B p A;go_enter func231,ntmps231
   go_upto_region 1 with fail
   refine dR (S:=fun j=>j.cell? (aa rb 3)=some (.map (some mb))/\j.cell? (aa w.heap.size 4)=some (aj a)) ⟨F,by simp[go_sem]⟩ fun W=>?_;refine tk 0 ?_;refine tk 1 ?_;refine tk 2 ?_;refine tk 3 ?_;refine tk 4 ?_;refine tk 5 ?_;refine tk 6 ?_;refine rH 7 fun K u=>?_;go_simp;refine u.out _ _ (E.out) (fun V=>?_);clear u K;refine cK ?_
   (go_wp2_with fail;exact Iq rfl ⟨rfl,y,J⟩)
 ·obtain rfl:ph=P:=by simpa[i]using h
  obtain rfl:us=U:=by simpa[i]using d
  have N:(o !=0)=true:=by simpa using i
  clear i h d;go_enter func231,ntmps231;go_wp2;refine Iq rfl ⟨rfl,?_,none,oM _ _ none,fun r e=>by cases e⟩;exact n.out.kept (oM _ _ none) aq aq
theorem wI{R a w}(b:a.defers=[])(h:R (.returned (.tuple #[])) w):Gv prog f191 R LD a w:=
 ⟨b,.tuple #[],by simp[results,results191],h⟩
abbrev Br(us:List Int)(m:aQ):List Int:=if accepted m then us++[m.ck]else us
theorem YF(rb mb:Nat)(sz l ph:Int)(us:List Int)(m:aQ)(w:an)(hR:dz w rb mb sz l ph us)(A:0<=m.ck/\m.ck<=65535)(G:us.length<bT):
  Calls prog 191 #[aF rb,m.val] w fun e n=>e=.returned (.tuple #[])/\dz n rb mb sz l (after ph m) (Br us m)/\wy w n rb mb:=by
 obtain⟨b,f,d,i,g,of,ln,h,c⟩:=m;dsimp only at A;obtain⟨g0,O,Q,R⟩:=hR.cell;have S:=hR.lt.1;have T:¬rb=w.heap.size:=ak;have f2:=hR.frozen;have y:=aL hR;clear hR;generalize a:after ph ⟨b,f,d,i,g,of,ln,h,c⟩=P;generalize j:Br us ⟨b,f,d,i,g,of,ln,h,c⟩=U;have k:=aL a;have z:=aL j;clear a j
 have stay:Hid (P=ph->U=us->dz (w.alloc (.cells (ji b f d i g of ln h c) 132)) rb mb sz l P U/\wy w (w.alloc (.cells (ji b f d i g of ln h c) 132)) rb mb):=fun o q=>by rw[o,q];exact⟨y.out.kept (oM _ _ none) aq aq,none,oM _ _ none,fun r e=>by cases e⟩
 have move:Hid (∀p,P=p->U=us->dz ((w.setCell (aa rb 2) (aj p)).alloc (.cells (ji b f d i g of ln h c) 132)) rb mb sz l P U/\wy w ((w.setCell (aa rb 2) (aj p)).alloc (.cells (ji b f d i g of ln h c) 132)) rb mb):=fun p o q=>by rw[o,q];exact⟨(y.out.phase p).kept (oM _ _ none) aq aq,some rb,(AK w rb 2 _).trans (oM _ _ (some rb)),fun r e=>.inl (by cases e;rfl)⟩
 by_cases s:b=3
 ·subst s
  have H:Hid (Calls prog 231 #[aF rb,.agg (ji 3 f d i g of ln h c)] (w.alloc (.cells (ji 3 f d i g of ln h c) 132)) fun e n=>e=.returned (.tuple #[])/\dz n rb mb sz l P U/\wy w n rb mb):=by
   refine(YE rb mb sz l ph us ⟨3,f,d,i,g,of,ln,h,c⟩ _ (y.out.kept (oM _ _ none) aq aq) A G).mono ?_;rintro e n ⟨E,hr,row,F,J⟩
   have o:(if c=0/\d=5 then 3 else ph)=P:=by rw[<-k.out];simp[after,and_comm]
   have q:(if c=0/\d≠5 then us++[g]else us)=U:=by rw[<-z.out];simp[Br,accepted]
   dsimp only at hr;rw[o,q]at hr;exact⟨E,hr,row,(oM _ _ row).trans F,J⟩
  clear stay move;go_enter func191,ntmps191;go_wp2_with (go_at_call 231;refine H.out.mono ?_;rintro e V ⟨rfl,I,K⟩);exact wI rfl ⟨rfl,I,K⟩
 ·have M:(b==3)=false:=by simpa using s
  have j:Hid (U=us):=by show U=us;rw[<-z.out];simp[Br,accepted,s]
  have D:=aL s;clear s
  by_cases u:b=1
  ·subst u;cases t:f.toList==[97]with
   |true=>
    have a:Hid (P=1):=by show P=1;rw[<-k.out];simp only[after,t];simp
    go_enter func191,ntmps191;go_wp2_with fail;exact wI rfl ⟨rfl,move.out 1 a.out j.out⟩
   |false=>
    have a:Hid (P=ph):=by show P=ph;rw[<-k.out];simp only[after,t];simp
    go_enter func191,ntmps191;go_wp2_with fail;exact wI rfl ⟨rfl,stay.out a.out j.out⟩
  ·have b1:(b==1)=false:=by simpa using u
   have B:=aL u;clear u
   by_cases v:b=2
   ·subst v;cases t:f.toList==[103]with
    |true=>
     have a:Hid (P=2):=by show P=2;rw[<-k.out];simp only[after,t];simp
     go_enter func191,ntmps191;go_wp2_with fail;exact wI rfl ⟨rfl,move.out 2 a.out j.out⟩
    |false=>
     have a:Hid (P=ph):=by show P=ph;rw[<-k.out];simp only[after,t];simp
     go_enter func191,ntmps191;go_wp2_with fail;exact wI rfl ⟨rfl,stay.out a.out j.out⟩
   ·have L:(b==2)=false:=by simpa using v
    have C:=aL v;clear v
    by_cases x:b=4
    ·subst x;have a:Hid (P=4):=by show P=4;rw[<-k.out];simp[after]
     go_enter func191,ntmps191;go_wp2_with fail;exact wI rfl ⟨rfl,move.out 4 a.out j.out⟩
    ·have N:(b==4)=false:=by simpa using x
     have a:Hid (P=ph):=by show P=ph;rw[<-k.out];simp[after,B.out,C.out,D.out,x]
     clear x;go_enter func191,ntmps191;go_wp2_with fail;exact wI rfl ⟨rfl,stay.out a.out j.out⟩
theorem QR(sz cl qu mx qn rt bu wk ou ph w):
  Calls prog 115 #[.agg (fc sz cl qu mx qn rt bu wk ou),aj ph] w fun e a=>e=.returned (aF (w.heap.size+2))/\
   a=((w.alloc (.cells (fc sz cl qu mx qn rt bu wk ou) 35)).alloc (.map #[] 0)).alloc (.cells #[aj sz,aj mx,aj ph,.map (some (w.heap.size+1))] 228):=by
 have b:=@run_makeMap prog;go_enter func115,ntmps115;go_wp2;go_ret;exact⟨rfl,rfl⟩
theorem F6(rb s w):
  Calls prog 152 #[aF rb,.string s] w fun e c=>e=.returned (.func (.func 189) #[] #[aF w.heap.size,aF (w.heap.size+1)])/\
   c=(w.alloc (.cells #[aF rb] 164)).alloc (.cells #[.string s] 9):=by
 have d:∀(b:Fn) (first a:Array au) (w:an),(rV b first a).run prog w=.ok (.func b first a) w:=fun _ _ _ _=>rfl;go_enter func152,ntmps152;go_wp2;go_ret;exact⟨rfl,rfl⟩
structure jE(W:an)(rb mb a sb:Nat)(sz mx:Int)(s:ByteArray)(st:St):Prop where
 rd:dz W rb mb sz mx st.ph st.used
 cp:W.heap[a]? =some (.cells #[aF rb] 164 (0,0))
 tx:W.heap[sb]? =some (.cells #[.string (s.extract st.pos s.size)] 9 (0,0))
 apart:rb≠sb/\mb≠sb/\a≠sb/\a≠rb/\a≠mb
abbrev ItR(rb mb a:Nat)(r:Nat):Prop:=r=rb\/r=mb\/r=a
def wo(rb mb a b:Nat)(A B:an):Prop:=B.heap[rb]? =A.heap[rb]? /\B.heap[mb]? =A.heap[mb]? /\B.heap[a]? =A.heap[a]? /\B.heap[b]? =A.heap[b]?
theorem Uses.block{w w' mb us}(h:Uses w mb us)(c:w'.heap[mb]? =w.heap[mb]?):Uses w' mb us:=by obtain⟨b,a,d,r⟩:=h;exact⟨b,a,c.trans d,r⟩
theorem jE.kept{A B rb mb cb sb sz mx s st}(h:jE A rb mb cb sb sz mx s st)(k:wo rb mb cb sb A B):jE B rb mb cb sb sz mx s st:=
 ⟨⟨k.1.trans h.rd.box,h.rd.uses.block k.2.1⟩,k.2.2.1.trans h.cp,k.2.2.2.trans h.tx,h.apart⟩
theorem jE.later{A B rb mb cb sb sz mx s st}(h:jE A rb mb cb sb sz mx s st)(a:A.grownBy B none):jE B rb mb cb sb sz mx s st:=
 h.kept ⟨a.block _ h.rd.lt.1 aq,a.block _ h.rd.lt.2 aq,a.block _ (aP.1 h.cp).1 aq,a.block _ (aP.1 h.tx).1 aq⟩
theorem Yb(s:ByteArray)(p n:Nat)(_h:p+n<=s.size):(s.extract p s.size).extract n (s.extract p s.size).size=s.extract (p+n) s.size:=by
 apply vK;simp[vJ,kL]
 congr 1
 omega
theorem jE.step{A B rb mb cb sb sz mx s st m n}(h:jE A rb mb cb sb sz mx s st)(hr:dz B rb mb sz mx (after st.ph m) (Br st.used m))(i:wy A B rb mb):
  jE (B.setCell (aa sb 0) (.string (s.extract (st.pos+n.toNat) s.size))) rb mb cb sb sz mx s (st.step (m,n)):=by
 obtain⟨row,b,c⟩:=i;obtain⟨a1,a,a3,d,f⟩:=h.apart;have g:B.heap[cb]? =_:=(b.block cb (aP.1 h.cp).1 (fun e=>(c _ e.symm).elim d f)).trans h.cp;have j:B.heap[sb]? =_:=(b.block sb (aP.1 h.tx).1 (fun e=>(c _ e.symm).elim (fun e=>a1 e.symm) (fun e=>a e.symm))).trans h.tx;refine⟨⟨?_,?_⟩,?_,?_,h.apart⟩
 ·rw[Below.heap_setCell _ _ _ _ (by exact a1)];exact hr.box
 ·exact Uses.block hr.uses (Below.heap_setCell _ _ _ _ (by exact a))
 ·rw[Below.heap_setCell _ _ _ _ (by exact a3)];exact g
 ·simp only[fD,kJ,j];simp[St.step]
theorem OH(sz mx ph us s):0<=(first sz mx ph us s).1.ck/\(first sz mx ph us s).1.ck<=65535:=by
 have g:∀f i,(cP s f i).1.ck=0:=fun f=>by
  induction f with
  |zero=>intro i;unfold cP;split<;>rfl
  |succ f a=>intro i;unfold cP;split;rfl;split;exact a _;rfl
 unfold first
 split
 ·rw[mC,g];simp
 ·split
  ·unfold opt;repeat' split
   all_goals simp[aQ.zero,aQ.closing]
  ·split
   ·unfold lA;repeat' split
    all_goals (first|exact(kG s 3)|simp[aQ.zero,aQ.closing])
   ·simp[aQ.zero]
theorem aaA(st:St)(xs:List (aQ×Int)):(st.run xs).used.length<=st.used.length+xs.length:=by
 induction xs generalizing st with
 |nil=>simp[St.run]
 |cons x xs a=>
  have:=a (st.step x)
  have e:(st.step x).used.length<=st.used.length+1:=by simp only[St.step];split<;>simp
  simp only[St.run,rX,eD]at this⊢;omega
end
section
attribute [local go_sem] Oper.semAt_some
attribute [local go_sem] bq bg
open Go.Proofs.Tryz
open Go.RowKit Go.Shelf
abbrev Ju(x:aQ×Int):Array au:=#[.agg (ji x.1.wh x.1.nm x.1.kd x.1.fl x.1.ck x.1.of x.1.ln x.1.dt x.1.er),aj x.2]
def Ed(W:an)(a:Nat):Nat:=match W.cell? (aa a 0)with|some (.string t)=>t.size|_=>0
theorem Qu{W rb mb cb sb sz mx s st}(h:jE W rb mb cb sb sz mx s st):Ed W sb=s.size-st.pos:=by simp[Ed,eO,h.tx,kL]
theorem x9(n)(hn:1<=n)(rb mb cb sb sz d s)(st:St)(W)(hz:0<=sz)(PO:s.size<=281474976710656)(hu:st.used.length<=281474976710656)(hp:st.pos<=s.size)(h0:jE W rb mb cb sb sz d s st):
  Iter jQ n prog 189 #[aF cb,aF sb] Ju (ItR rb mb sb) (wo rb mb cb sb) (lK sz d s st)
   (fun k i=>lK sz d s st k/\((st.run k).next sz d s).2=0/\jE i rb mb cb sb sz d s (st.run k))
   (fun pre i=>lK sz d s st pre/\jE i rb mb cb sb sz d s (st.run pre)) W:=by
 intro l J Jx H bt hY aT;refine callsIn_of_wp func189 rfl trivial ?_ rfl;simp only[ntmps189,iH,eD,iF,Nat.reduceAdd,Nat.reduceSub,tR,tS,ud,tX,pW,jR]
 gi_wp2
 gi_loopw [5] (fun _ wr=>∃pre,Hid (lK sz d s st pre/\jE wr rb mb cb sb sz d s (st.run pre)/\J pre wr)) (fun _ wr=>Ed wr sb)
 case atStart=>exact⟨[],trivial,h0,aT⟩
 case round=>
  obtain⟨pre,hH⟩:=hrel;obtain⟨F,f,K⟩:=hH.out;clear hH;have Q:=Kk sz d s st pre hp F;have T:=aaA st pre;generalize v:st.run pre=c at f Q T;obtain⟨⟨m,a⟩,u⟩:∃x,c.next sz d s=x:=⟨_,rfl⟩
  have B:=QU sz d s c;rw[u]at B;have I:=OH sz d c.ph c.used (s.extract c.pos s.size);have L:first sz d c.ph c.used (s.extract c.pos s.size)=(m,a):=u
  rw[L]at I;obtain⟨t,j⟩:∃t,t=s.extract c.pos s.size:=⟨_,rfl⟩;have S:t.size=s.size-c.pos:=by rw[j];simp[kL]
  have Y:wr.cell? (aa cb 0)=some (aF rb):=by simp[eO,f.cp]
  have c2:wr.cell? (aa sb 0)=some (.string t):=by simp[eO,f.tx,j]
  have hN:Hid (bz 190 #[aF rb,.string t] wr (.tuple #[.agg (eU m),aj a])):=by have:=J2 rb mb sz d c.ph c.used t wr hz ak f.rd;rw[j,L]at this;rw[j];exact this
  by_cases P:a=0
  ·subst P
   have HD:Hid (∀b,aB wr b->(∃k,(lK sz d s st k/\((st.run k).next sz d s).2=0/\jE (b.alloc (.cells (eU m) 132)) rb mb cb sb sz d s (st.run k))/\J k (b.alloc (.cells (eU m) 132)))):=fun b y=>by have A:wr.grownBy (b.alloc (.cells (eU m) 132)) none:=(Iz y).trans (oM _ _ none);exact⟨pre,⟨F,by rw[v,u],by rw[v];exact f.later A⟩,H _ _ _ none K A (fun r e=>by cases e)⟩
   clear F f K u L I B Q T v S j
   gi_wp2_with (first|(refine⟨trivial,?_⟩;gi_at_call 190;refine(fT.2 hN.out).mono ?_;rintro e b ⟨rfl,z⟩))
   refine fX (results_none rfl _ _ _) rfl ?_;exact⟨⟨_,rfl⟩,.inl (HD.out b z)⟩
  ·have bu:(a==0)=false:=by simpa using P
   have hv:lK sz d s st (pre++[(m,a)]):=(RS sz d s st pre (m,a)).2 ⟨F,by rw[v,u],P⟩;have bD:a<=(t.size:Int):=by rw[S];exact B.2
   have bC:0<=a:=B.1;have aG:c.used.length<bT:=by unfold bT;omega
   have PZ:st.run (pre++[(m,a)])=c.step (m,a):=by rw[St.Kj,v]
   have HF:Hid (∀b,aB wr b->Calls prog 191 #[aF rb,.agg (eU m)] (b.alloc (.cells (eU m) 132)) fun e g=>e=.returned (.tuple #[])/\(g.cell? (aa sb 0)=some (.string t)/\g.frozen? (aa sb 0)=false/\gL g b.heap.size m/\sb<b.heap.size/\
     jE (g.setCell (aa sb 0) (.string (t.extract a.toNat t.size))) rb mb cb sb sz d s (c.step (m,a))/\J pre (g.setCell (aa sb 0) (.string (t.extract a.toNat t.size))))):=fun b y=>by
    have A:wr.grownBy (b.alloc (.cells (eU m) 132)) none:=(Iz y).trans (oM _ _ none);have C:=f.later A;have bf:sb<wr.heap.size:=(aP.1 f.tx).1;have aA:sb<b.heap.size:=cV bf y.size;refine(YF rb mb sz d c.ph c.used m (b.alloc (.cells (eU m) 132)) C.rd I aG).mono ?_;rintro e g ⟨he,aZ,aC⟩;have bg:=C.step (n:=a) aZ aC;obtain⟨row,O,R⟩:=aC;have av:=f.apart;have aE:g.heap[sb]? =_:=(O.block sb (aP.1 C.tx).1 (fun e=>(R _ e.symm).elim (fun e=>av.1 e.symm) (fun e=>av.2.1 e.symm))).trans C.tx;have hcut:t.extract a.toNat t.size=s.extract (c.pos+a.toNat) s.size:=by rw[j];exact Yb s c.pos a.toNat ak
    rw[hcut]
    have aX:gL g b.heap.size m:=gL.bU (w:=b.alloc (.cells (eU m) 132)) (row:=row) (by simp[gL,go_sem]) O aq (fun e=>by have:=C.rd.lt;have Z:=f.rd.lt;have:=y.size;rcases R _ e.symm with e|e<;>omega)
    exact⟨he,by simp[eO,aE,j],by simp[oK,aE],aX,aA,bg,
     H _ _ _ (some sb) (H _ _ _ row (H _ _ _ none K A (fun r e=>by cases e)) O (fun r e=>(R r e).elim .inl (fun h=>.inr (.inl h)))) (AK _ _ _ _) (fun r e=>.inr (.inr (by cases e;rfl)))⟩
   have HY:Hid (∀q,J pre q->YieldAt jQ (n-1) prog l (Ju (m,a)) q fun e i=>(e=.returned (.bool true)/\J (pre++[(m,a)]) i/\wo rb mb cb sb q i)\/(e=.returned (.bool false)/\Jx (pre++[(m,a)]) i/\wo rb mb cb sb q i)):=fun q ZK=>hY pre (m,a) q ZK hv;have p:Hid (lK sz d s st (pre++[(m,a)])/\st.run (pre++[(m,a)])=c.step (m,a)/\Ed wr sb=s.size-c.pos/\c.pos+a.toNat<=s.size):=⟨hv,PZ,Qu f,ak⟩;clear F f K u L I Q T v j hv PZ aG B S
   gi_wp2_with (first|(refine⟨trivial,?_⟩;gi_at_call 190;refine(fT.2 hN.out).mono ?_;rintro e b ⟨rfl,z⟩;have V:=aL z;obtain⟨bA,bB⟩:=jY z;clear z;have aS:b.cell? (aa cb 0)=some (aF rb):=(V.out.cell (iu Y)).trans Y;have hx:∀(U:Obj) (o:Nat),(b.alloc U).cell? (aa cb o)=b.cell? (aa cb o):=(fun U o=>fC (Below.heap_alloc b U _ (iu aS))))|(refine⟨trivial,?_⟩;gi_at_call 191;refine(fT.2 (HF.out b V.out)).mono ?_;rintro e g ⟨rfl,d2,df,⟨m0,m1,m2,m3,m4,m5,m6,m7,m8⟩,aA,ay,az⟩;have bO:¬sb=b.heap.size:=ak;obtain⟨fn,bQ,assign,body,hy,N⟩:=HY.out _ az;have X:=aL ay;clear ay az))
   refine N.mono ?_;rintro e W3 (⟨rfl,Pw,E⟩|⟨rfl,Px,E⟩)
   ·have D:=X.out.kept E;have G:=aL D;have M:=aL Pw;clear D Pw E N hy
    gi_wp2
    go_roundw
    case rel=>exact⟨pre++[(m,a)],p.out.1,by rw[p.out.2.1];exact G.out,M.out⟩
    case measure=>
     rw[p.out.2.2.1,Qu G.out];have:=p.out.2.2.2;have Z:(c.step (m,a)).pos=c.pos+a.toNat:=rfl;rw[Z];omega
   ·have D:=X.out.kept E;have G:=aL D;have M:=aL Px;clear D Px E N hy
    gi_wp2
    refine fX (results_none rfl _ _ _) rfl ?_;exact⟨⟨_,rfl⟩,.inr ⟨pre++[(m,a)],⟨p.out.1,by rw[p.out.2.1];exact G.out⟩,M.out⟩⟩
end
section
attribute [local go_sem ↓] Go.wp_at_zero Go.wp_at_succ
attribute [local go_sem] bq bg
open Go.Conc Go.RowKit
structure aG(X:Nat->Prop)(w w':an):Prop where
 os:w'.os=w.os
 size:w.heap.size<=w'.heap.size
 block:∀k,k<w.heap.size->¬X k->w'.heap[k]? =w.heap[k]?
theorem aG.refl(X w):aG X w w:=⟨rfl,aV _,fun _ _ _=>rfl⟩
theorem aG.trans{X a b c}(h:aG X a b)(k:aG X b c):aG X a c:=
 ⟨k.os.trans h.os,cS h.size k.size,fun i d e=>(k.block i (cV d h.size) e).trans (h.block i d e)⟩
theorem aG.mono{X Y a b}(h:aG X a b)(e:∀k,k<a.heap.size->X k->Y k):aG Y a b:=⟨h.os,h.size,fun i c f=>h.block i c fun d=>f (e i c d)⟩
theorem aG.below{X w w'}(h:aB w w'):aG X w w':=⟨h.os,h.size,fun k a _=>h.block k a⟩
theorem aG.set{X a w}(h:aG X a w){p}(d:X p.block)(v):aG X a (w.setCell p v):=
 ⟨h.os,by simpa using h.size,fun k c b=>(Below.heap_setCell w p v k (fun e=>b (e▸d))).trans (h.block k c b)⟩
abbrev GL(w:an)(c:Nat)(no wt sz cl f b e rt a g d:Int)(rb:Nat)(s:ByteArray)(out:au)(tok de:Int)(ch:Nat):Prop:=
 w.heap[c]? =some (.cells (clL no wt sz cl f b e rt a g d rb s out tok de ch) 168 (0,0))
theorem av{w:an}{b T:Nat}{x:Array au}(h:w.heap[b]? =some (.cells x T (0,0))){i:Nat}{v:au}(hv:x[i]? =some v):w.cell? (aa b i)=some v:=by simp[eO,h,hv]
theorem aS{w:an}{b T:Nat}{x:Array au}(h:w.heap[b]? =some (.cells x T (0,0)))(i):w.frozen? (aa b i)=false:=by simp[oK,h]
theorem bV{w:an}{b T:Nat}{x:Array au}(h:w.heap[b]? =some (.cells x T (0,0)))(i v):(w.setCell (aa b i) v).heap[b]? =some (.cells (x.setIfInBounds i v) T (0,0)):=by simp[fD,kJ,h]
theorem mU{w:an}{b k:Nat}{o:Option Obj}(h:w.heap[k]? =o)(a:k≠b)(i v):(w.setCell (aa b i) v).heap[k]? =o:=
 (Below.heap_setCell w ⟨b,i,none⟩ v k a).trans h
theorem dZ{P fn R a w}(hr:fn.results=#[])(b:a.defers=[])(h:R (.returned (.tuple #[])) w):Gv P fn R LD a w:=
 ⟨b,.tuple #[],by simp[results,hr],h⟩
theorem aE(w:an)(b i:Nat)(v:au){T:Nat}{x:Array au}(h:w.heap[b]? =some (.cells x T (0,0)))(hv:x[i]? =some v:=by rfl):w.cell? ⟨b,i,none⟩=some v:=av h hv
end
section
attribute [local go_sem ↓] Go.wp_at_zero Go.wp_at_succ
attribute [local go_sem] bq bg
open Go.Conc Go.RowKit
open Go.Proofs.Tryz
theorem RB{P o a w w' K Q y sl x}{t u:TypeId}{v v' s}(d:cL o y=true)(b:o.op=.call {callee:=.builtin .append,args:=#[sl,x],argTypes:=#[t,u]}) (c:a.eval sl=v) (e:a.eval x=.string s) (hr:(nx #[t,u] o.type #[v,.string s]).run P w=.ok v' w') (h:K (a.put o.dst v') w'):
  if cL o y=true then Oper.wp P o a w K Q else K (a.put o.dst undef) w:=by
 rw[aM d];unfold Oper.wp execOp;simp only[b,resolve,invoke,builtin,Sem.run_bind,Sem.run_pure,Result.andThen_ok,qQ,rZ,vQ,c,e,hr];exact h
theorem lT{w:an}{B e k n:Nat}{v:au}{xs:List au}(h:w.ownsRow B e k v n xs):∃d a,v=.slice d n a:=by
 rcases h.2 with⟨b,c⟩|⟨g,a,f,b,_⟩
 ·exact⟨none,0,by rw[b,c]⟩
 ·exact⟨_,a,b⟩
theorem VW{P w w' base t u ty e}{i:TypeInfo}(b:P.underlying t=some (.slice e))(c:P.underlying u=some .string)(a:P.info? e=some i)(p:i.zero=some (.int .u8 0))(l:i.size=1)(m:i.bytes=1){v v' n xs}(f:w.ownsRow base e 1 v n xs){s}(A:n+s.size<=140737488355328)(hr:(nx #[t,u] ty #[v,.string s]).run P w=.ok v' w'):
  v'.ownBlock=v.ownBlock\/∀g,v'.ownBlock=some g->w.heap.size<=g:=by
 have z:xs.length=n:=by simpa using f.1
 rcases f.2 with⟨rfl,rfl⟩|⟨g,d,q,rfl,B,r,E,C,D,F⟩
 ·by_cases hm:s.size=0
  ·have o:=Lib.run_firstCells_string (P:=P) w 1 s;rw[hm]at o;simp[nx,MC b,MC c,sizeOf,typeInfo,a,l,Builtin.lenOf,hm,o]at hr;exact .inl (by rw[<-hr.1])
  ·have k:=run_append_nil_string (P:=P) w t u ty e i (.int .u8 0) b c a p s ak ak (by rw[m];omega);rw[k]at hr;cases hr;exact .inr fun g h=>by cases h;exact aV _
 ·by_cases y:n+s.size<=d
  ·have k:=Lib.run_append_room_string (P:=P) w t u ty e i b c a l g n d q r s y ak;rw[k]at hr;cases hr;exact .inl rfl
  ·have x:∀j u,xs[j]? =some u->w.cell? ((⟨g,0,none⟩:eV).add j)=some u:=f.cells (g:=g) rfl;have k:=Lib.run_append_grow_string (P:=P) w t u ty e i (.int .u8 0) b c a p ⟨g,0,none⟩ n d xs (by rw[l];simpa using z) x s ak ak (by rw[m];exact growslice_fits ak ak);rw[k]at hr;cases hr;exact .inr fun g h=>by cases h;exact aV _
abbrev sP(w:an)(b:Nat)(m:aQ):Prop:=w.heap[b]? =some (.cells (eU m) 132 (0,0))
abbrev sQ(w:an)(out:au)(o:ByteArray):Prop:=w.ownsRow 0 5 1 out o.size (Lib.strCells o)
abbrev HeS(c b:Nat)(sz cl g d f rt a h e:Int)(m:aQ)(W:an):Prop:=
 (W.cell? (aa c 2)=some (aj sz)/\W.cell? (aa c 3)=some (aj cl)/\W.cell? (aa c 4)=some (aj g)/\W.cell? (aa c 5)=some (aj d)/\W.cell? (aa c 6)=some (aj f)/\W.cell? (aa c 7)=some (aj rt)/\W.cell? (aa c 8)=some (aj a)/\W.cell? (aa c 9)=some (aj h)/\W.cell? (aa c 10)=some (aj e))/\
 (W.cell? (aa b 0)=some (aj m.wh)/\W.cell? (aa b 1)=some (.string m.nm)/\W.cell? (aa b 2)=some (aj m.kd)/\W.cell? (aa b 3)=some (aj m.fl)/\W.cell? (aa b 4)=some (aj m.ck)/\W.cell? (aa b 5)=some (aj m.of)/\W.cell? (aa b 6)=some (aj m.ln)/\W.cell? (aa b 7)=some (.string m.dt)/\W.cell? (aa b 8)=some (aj m.er))
section
variable {W W':an}
theorem bD{W W'}(a:aB W W'){k:Nat}{x:Obj}(h:W.heap[k]? =some x):W'.heap[k]? =some x:=(a.block k (aP.1 h).1).trans h
end
end
end Go.Proofs.YtpobhljcainmdaaGreat
