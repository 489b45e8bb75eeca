/- Parts of the proof. -/
import Derived.Conc.WgGenN2
import Derived.Test.YtpobhljcainmdaaGreatChecked
import Derived.Test.YtpobhljcainmdaaGreatJ04
set_option maxRecDepth 100000
set_option maxHeartbeats 8000000
set_option linter.all false
namespace Go.Proofs.YtpobhljcainmdaaGreat
open Go.Conc renaming stepG_region_end->cy,stepG_seq->bP,lt_size_of_getElem?->vY,stepG_ret'->qX,stepG_load_atomic->MD,noRace_append->GA,stepG_skip->nF,touchAt_of->Cv,stepG_markAt->MF,stepG_mark0->ME,deafStep->Gz
open Go renaming Goroutine->bw,World->an,TypeId->aK,Program->aN,MemAct->sx,Trace->eW,HappensBefore->LK,mayWake->Cr
open Go.MemAct renaming ofEvent->cI,mark->UQ
open Go.ConcN renaming upd_same->gV,upd_ne->iZ
open Go.World renaming setCell->fD
open Go.Trace renaming g?->uj,act?->yd
open Go.ConcR.Gen renaming x_loadU64_n->ML,x_loadU64_b->MJ,x_loadU64_x->MM,x_loadU64_f->MK,body_wait->Vp
open Go.Goroutine renaming again->Um
section
open Go.Conc Go.Conc.Lib Go.ConcN Go.ConcN.Gen Go.ConcR.Gen Go.RowKit
open Go.ConcR (KK wgBlock WgAt stA smA rd wr mk Payload Aside2 DC0)
section
variable (P:aN) (ty:aK) (Wg:Nat) (O:Nat->Prop) (Fin Anch:bw->an->Prop)
def ZAq(g:bw)(w:an):Prop:=g.status=.running/\∃g',stepG P true g w=.go g' w #[mk (.acquire (stA Wg))]/\∃m,Goes P true (Rel ty Wg O) (DZ Wg) Fin m g' w
def ZEn(g:bw)(w:an):Prop:=g.status=.running/\∃g',stepG P true g w=.go g' w #[mk .enable]/\∃m,Goes P true (Rel ty Wg O) (DZ Wg) (ZAq P ty Wg O Fin) m g' w
def ZW4(g:bw)(w:an):Prop:=g.status=.running/\(WgAt ty Wg w 0 0->∃g',stepG P true g w=.go g' w #[rd (stA Wg)]/\∃m,Goes P true (Rel ty Wg O) (DZ Wg) (ZEn P ty Wg O Fin) m g' w)
def ZW3(g:bw)(w:an):Prop:=g.status=.running/\g.offers=none/\
 ((∃st,WgAt ty Wg w st 0)->stepG P true g w=.go {g with status:=.blocked} w #[])/\
 (WgAt ty Wg w 0 1->∃g',stepG P true g w=.go g' (w.setCell (smA Wg) (.int .u32 0)) (semEvents (smA Wg))/\∃m,Goes P true (Rel ty Wg O) (DZ Wg) (ZW4 P ty Wg O Fin) m g' (w.setCell (smA Wg) (.int .u32 0)))
def ZW2(vs:Nat)(g:bw)(w:an):Prop:=g.status=.running/\∀v:Nat,v<2147483648->WgAt ty Wg w (v*KK) 0->
 (v=vs->∃g',stepG P true g w=.go g' (w.setCell (stA Wg) (.int .u64 (v*KK+1))) #[rd (stA Wg),wr (stA Wg)]/\∃m,Goes P true (Rel ty Wg O) (DZ Wg) (ZW3 P ty Wg O Fin) m g' (w.setCell (stA Wg) (.int .u64 (v*KK+1))))/\
 (v≠vs->∃g',stepG P true g w=.go g' w #[rd (stA Wg)]/\∃m,Goes P true (Rel ty Wg O) (DZ Wg) Anch m g' w)
def ZW1(g:bw)(w:an):Prop:=g.status=.running/\∀v:Nat,v<2147483648->WgAt ty Wg w (v*KK) 0->∃g',stepG P true g w=.go g' w #[rd (stA Wg)]/\
 (v=0->∃m,Goes P true (Rel ty Wg O) (DZ Wg) (ZEn P ty Wg O Fin) m g' w)/\(v≠0->∃m,Goes P true (Rel ty Wg O) (DZ Wg) (ZW2 P ty Wg O Fin Anch v) m g' w)
def ZDi(g:bw)(w:an):Prop:=g.status=.running/\∃g',stepG P true g w=.go g' w #[mk .disable]/\∃m,Goes P true (Rel ty Wg O) (DZ Wg) Anch m g' w
end
def GS(L:WgLink)(Wg:Nat)(c:Frame)(cs:List Frame)(g:bw)(w:an):Prop:=
 ∃T:Array Value,g=G ((base L.wait).at ⟨T,[]⟩ [.code (L7 L),.inLoop (L7 L),.inBlock 0]) (c::cs)/\T.size=84/\T[0]? =some (aF Wg)/\WgLive L.tWg Wg w
section
variable {L:WgLink} {Wg:Nat} {O:Nat->Prop} {b₀:Frame} {a₀:Act} {ops₀:Array Oper} {i₀:Nat} {rest₀:List Nat} {k₀:List Item} {cs:List Frame} {Fin:bw->an->Prop}
theorem aeT{P}(H:WgLib P L)(w)(hK:WgLive L.tWg Wg w):
  Goes P true (Rel L.tWg Wg O) (DZ Wg) (ZDi P L.tWg Wg O (GS L Wg (b₀.at a₀ (.inRegion ops₀ (i₀::rest₀)::k₀)) cs)) 40 (G ((base L.wait).at ⟨#[aF Wg,undef,undef,undef,undef,undef,undef,undef,undef,undef,undef,undef,undef,undef,undef,undef,undef,undef,undef,undef,undef,undef,undef,undef,undef,undef,undef,undef,undef,undef,undef,undef,undef,undef,undef,undef,undef,undef,undef,undef,undef,undef,undef,undef,undef,undef,undef,undef,undef,undef,undef,undef,undef,undef,undef,undef,undef,undef,undef,undef,undef,undef,undef,undef,undef,undef,undef,undef,undef,undef,undef,undef,undef,undef,undef,undef,undef,undef,undef,undef,undef,undef,undef,undef],[]⟩ [.code (Vp L)]) (b₀.at a₀ (.inRegion ops₀ (i₀::rest₀)::k₀)::cs)) w:=by
 lib_facts
 simp only[Vp,waitFn,mj];refine je ?_;u_c bP lr hK;u_cond true lr hK;u_reg lr hK;refine Goes.stop (fun _ hr=>?_);replace hK:=lr hK hr;clear hr;refine⟨rfl,_,ME .disable aq rfl rfl (by k_ne) rfl H.f_disable (x_disable_n L) (x_disable_b L) (x_disable_x L) (x_disable_f L),40,?_⟩;refine je ?_
 walk_nrm
 u_c cy lr hK;u_c stepG_block lr hK;u_c stepG_loop lr hK;exact Goes.stop fun a r=>⟨_,rfl,aq,aq,lr hK r⟩
theorem aeV{P}(H:WgLib P L)(a:∀w,WgLive L.tWg Wg w->Fin (G (b₀.at (a₀.put ((ops₀[i₀]?).bind (·.dst)) (.tuple #[])) (.inRegion ops₀ rest₀::k₀)) cs) w)(g w)(h:GS L Wg (b₀.at a₀ (.inRegion ops₀ (i₀::rest₀)::k₀)) cs g w):
  ∃m,Goes P true (Rel L.tWg Wg O) (DZ Wg) (ZW1 P L.tWg Wg O Fin (GS L Wg (b₀.at a₀ (.inRegion ops₀ (i₀::rest₀)::k₀)) cs)) m g w:=by
 lib_facts
 obtain⟨T,rfl,b,t0,hK⟩:=h;obtain⟨l,o,C,U,v4,v5,v6,v7,v8,v9,p,q,s,t,u,x,y,z,A,B,D,E,F,I,J,K,M,N,Q,R,V,W,X,Y,Z,af,ah,aj,av,ay,aA,aB,aC,aE,aF,aG,aH,aI,aL,aO,aR,aS,aT,aU,aW,aX,aY,aZ,bf,bg,bl,bn,bp,bq,bt,bu,bz,bA,bB,bC,bE,bF,bG,bH,bI,bJ,bL,bM,bN,bO,bR,bS,bU,bV,rfl⟩:=array84 T b;simp at t0;subst t0;refine⟨60,?_⟩;simp only[L7,Vp,waitFn,mj];refine je ?_;u_c stepG_block lr hK;u_c bP lr hK;u_reg lr hK;u_op lr hK;u_op lr hK;u_op lr hK;u_call H.f_uLoad (nm_uLoad L) uLoadFn lr hK;u_c bP lr hK;u_reg lr hK;u_op lr hK;u_c cy lr hK;u_c bP lr hK;u_reg lr hK;u_op lr hK;u_op lr hK;u_op lr hK;refine Goes.stop (fun _ hr=>?_);replace hK:=lr hK hr;clear hr;refine⟨rfl,fun v hv hw=>?_⟩;rcases me v with rfl|hvp
 ·replace hw:=show WgAt L.tWg Wg _ 0 0 from by simpa using hw
  refine⟨_,MD (v:=0) rfl rfl (by k_ne) rfl H.f_loadU64 (ML L) (MJ L) (MM L) .u64 (MK L) rfl hw.cellSt,fun _=>⟨60,?_⟩,fun h=>absurd rfl h⟩;clear hw;refine je ?_
  walk_nrm
  u_op lr hK;u_c cy lr hK;u_c qX lr hK;u_leave1 H.f_uLoad lr hK;u_op lr hK;u_c cy lr hK;u_c bP lr hK;u_reg lr hK;u_op lr hK;u_op lr hK;u_op lr hK;u_op lr hK;u_c cy lr hK;u_c bP lr hK;u_reg lr hK;u_op lr hK;u_op lr hK;u_op lr hK;u_op lr hK;u_c cy lr hK;u_c bP lr hK;u_c bP lr hK;u_reg lr hK;u_op lr hK;u_op lr hK;u_c cy lr hK;u_cond true lr hK;u_c bP lr hK;u_cond true lr hK;u_c bP lr hK;u_reg lr hK;refine Goes.stop (fun _ hr=>?_);replace hK:=lr hK hr;clear hr;refine⟨rfl,_,ME .enable aq rfl rfl (by k_ne) rfl H.f_enable (x_enable_n L) (x_enable_b L) (x_enable_x L) (x_enable_f L),40,?_⟩;refine je ?_
  walk_nrm
  u_c cy lr hK;u_reg lr hK;u_op lr hK
  u_conv H.underlying_tWgP H.room_tWg (WgLive.cell0 hK).choose_spec lr hK
  refine Goes.stop (fun _ hr=>?_);replace hK:=lr hK hr;clear hr;refine⟨rfl,_,MF .acquire aq rfl rfl (by k_ne) rfl H.f_acquire (x_acquire_n L) (x_acquire_b L) (x_acquire_x L) (x_acquire_f L) (by simp[Act.eval,stA]),40,?_⟩;refine je ?_
  walk_nrm
  u_c cy lr hK;u_c bP lr hK;u_c bP lr hK;u_reg lr hK;u_op lr hK;u_op lr hK;u_op lr hK;u_op lr hK;u_op lr hK;u_op lr hK;u_op lr hK;u_op lr hK;u_skip lr hK;u_skip lr hK;u_op lr hK;u_c cy lr hK;u_cond false lr hK;u_c nF lr hK;u_c qX lr hK
  u_leave0 H.f_wait lr hK
  exact Goes.stop fun w₁ r=>a _ (lr hK r)
 ·obtain⟨S,hS⟩:∃S:Int,(v:Int) *KK=S:=⟨_,rfl⟩;have a1:S / 4294967296=(v:Int):=by rw[<-hS];simp only[KK];omega
  have b1:bits .and .u64 S 2147483648=0:=by rw[<-hS];have:=st_flag v 0 ak ak;simpa[KK]using this
  have c:bits .and .u64 S 2147483647=0:=by rw[<-hS];have:=st_waiters v 0 ak ak;simpa[KK]using this
  have d:IntKind.i32.wrap (v:Int)=(v:Int):=by rw[IntKind.wrap_i32];omega
  have w1:IntKind.u64.wrap (S+1)=S+1:=by rw[IntKind.wrap_u64,<-hS];simp only[KK];omega
  have f:decide ((v:Int)<0)=false:=ij ak;have i:decide (0<(v:Int))=true:=iY ak;have j:((v:Int)==0)=false:=bK;have k:decide ((v:Int)=0)=false:=ij ak;rw[hS]at hw;refine⟨_,MD (v:=S) rfl rfl (by k_ne) rfl H.f_loadU64 (ML L) (MJ L) (MM L) .u64 (MK L) rfl hw.cellSt,fun h0=>absurd h0 ak,fun _=>⟨100,?_⟩⟩;clear hw;refine je ?_
  walk_nrm
  u_op lr hK;u_c cy lr hK;u_c qX lr hK;u_leave1 H.f_uLoad lr hK;u_op lr hK;u_c cy lr hK;u_c bP lr hK;u_reg lr hK;u_op lr hK;u_op lr hK;u_op lr hK;u_op lr hK;u_c cy lr hK;u_c bP lr hK;u_reg lr hK;u_op lr hK;u_op lr hK;u_op lr hK;u_op lr hK;u_c cy lr hK;u_c bP lr hK;u_c bP lr hK;u_reg lr hK;u_op lr hK;u_op lr hK;u_c cy lr hK;u_cond false lr hK;u_c nF lr hK;u_c bP lr hK;u_reg lr hK;u_op lr hK;u_op lr hK;u_op lr hK;u_op lr hK;u_op lr hK;u_op lr hK;u_call H.f_uCas (nm_uCas L) uCasFn lr hK;u_c bP lr hK;u_reg lr hK;u_op lr hK;u_c cy lr hK;u_c bP lr hK;u_reg lr hK;u_op lr hK;u_op lr hK;u_op lr hK;u_op lr hK;u_op lr hK;refine Goes.stop (fun _ hr=>?_);replace hK:=lr hK hr;clear hr;refine⟨rfl,fun v' hv' hw=>⟨fun e=>?_,fun e=>?_⟩⟩
  ·subst e;rw[hS]at hw⊢;refine⟨_,(stepG_cas_hit (v:=S) (n:=S+1) rfl rfl (by k_ne) rfl H.f_casU64 (x_casU64_n L) (x_casU64_b L) (x_casU64_x L) .u64 (x_casU64_f L) rfl rfl rfl hw.cellSt (hw.thaw 0)).trans (by rfl),100,?_⟩
   replace hK:WgLive L.tWg Wg (fD _ (stA Wg) (.int .u64 (S+1))):=⟨_,_,hw.setSt _⟩
   clear hw;refine Pk (n:=50) (m:=49) (fun _=>⟨fun _ _=>rfl,aV _,id,rfl⟩) ?_
   walk_nrm
   u_op lr hK;u_c cy lr hK;u_c qX lr hK;u_leave1 H.f_uCas lr hK;u_c cy lr hK;u_cond true lr hK;u_c bP lr hK;u_c bP lr hK;u_reg lr hK;u_op lr hK;u_op lr hK;u_op lr hK;u_op lr hK;u_c cy lr hK;u_cond true lr hK;u_reg lr hK;u_op lr hK;u_op lr hK;u_op lr hK
   u_conv H.underlying_tPU32 H.room_tU32 (WgLive.cell1 hK).choose_spec lr hK
   refine Goes.stop (fun _ hr=>?_);replace hK:=lr hK hr;clear hr;refine⟨rfl,_,_,MF .write aq rfl rfl (by k_ne) rfl H.f_raceWrite (x_raceWrite_n L) (x_raceWrite_b L) (x_raceWrite_x L) (x_raceWrite_f L) (ad:=aa _ 1) (by simp[Act.eval]<;>rfl),.inr rfl,?_⟩;refine je ?_
   walk_nrm
   u_c cy lr hK;u_c bP lr hK;u_reg lr hK;u_op lr hK;u_c cy lr hK;u_c bP lr hK;u_c bP lr hK;u_reg lr hK;u_op lr hK;u_op lr hK;u_op lr hK;u_op lr hK;u_skip lr hK;u_op lr hK;u_c cy lr hK;u_cond false lr hK;u_c nF lr hK;u_c bP lr hK;u_reg lr hK;u_op lr hK;u_op lr hK;u_op lr hK;u_op lr hK;refine Goes.stop (fun _ hr=>?_);replace hK:=lr hK hr;clear hr;refine⟨rfl,rfl,fun⟨st,hw⟩=>stepG_semacquire_wait rfl rfl rfl H.f_semacquire (x_semacquire_n L) (x_semacquire_b L) (x_semacquire_x L) (x_semacquire_f L) (by simp[Act.eval,smA]) hw.cellSm,fun hf=>?_⟩;refine⟨_,(stepG_semacquire (n:=1) rfl rfl (by k_ne) rfl H.f_semacquire (x_semacquire_n L) (x_semacquire_b L) (x_semacquire_x L) (x_semacquire_f L) (by simp[Act.eval,smA]) hf.cellSm (by k_ne) (hf.thaw 1)).trans (by rfl),60,?_⟩
   replace hK:WgLive L.tWg Wg (fD _ (smA Wg) (.int .u32 0)):=⟨_,_,hf.setSm 0⟩
   clear hf;refine je ?_
   walk_nrm
   u_c cy lr hK;u_c bP lr hK;u_reg lr hK;u_op lr hK;u_op lr hK;u_op lr hK;u_call H.f_uLoad (nm_uLoad L) uLoadFn lr hK;u_c bP lr hK;u_reg lr hK;u_op lr hK;u_c cy lr hK;u_c bP lr hK;u_reg lr hK;u_op lr hK;u_op lr hK;u_op lr hK;refine Goes.stop (fun _ hr=>?_);replace hK:=lr hK hr;clear hr;refine⟨rfl,fun hw=>⟨_,MD (v:=0) rfl rfl (by k_ne) rfl H.f_loadU64 (ML L) (MJ L) (MM L) .u64 (MK L) rfl hw.cellSt,60,?_⟩⟩;clear hw;refine je ?_
   walk_nrm
   u_op lr hK;u_c cy lr hK;u_c qX lr hK;u_leave1 H.f_uLoad lr hK;u_op lr hK;u_op lr hK;u_c cy lr hK;u_c bP lr hK;u_cond true lr hK;u_c bP lr hK;u_reg lr hK;refine Goes.stop (fun _ hr=>?_);replace hK:=lr hK hr;clear hr;refine⟨rfl,_,ME .enable aq rfl rfl (by k_ne) rfl H.f_enable (x_enable_n L) (x_enable_b L) (x_enable_x L) (x_enable_f L),40,?_⟩;refine je ?_
   walk_nrm
   u_c cy lr hK;u_reg lr hK;u_op lr hK
   u_conv H.underlying_tWgP H.room_tWg (WgLive.cell0 hK).choose_spec lr hK
   refine Goes.stop (fun _ hr=>?_);replace hK:=lr hK hr;clear hr;refine⟨rfl,_,MF .acquire aq rfl rfl (by k_ne) rfl H.f_acquire (x_acquire_n L) (x_acquire_b L) (x_acquire_x L) (x_acquire_f L) (by simp[Act.eval,stA]),40,?_⟩;refine je ?_
   walk_nrm
   u_c cy lr hK;u_c bP lr hK;u_c bP lr hK;u_reg lr hK;u_op lr hK;u_c cy lr hK;u_cond false lr hK;u_c nF lr hK;u_c qX lr hK
   u_leave0 H.f_wait lr hK
   exact Goes.stop fun w₁ r=>a _ (lr hK r)
  ·refine⟨_,stepG_cas_miss (v:=(v':Int) *KK) (old:=S) (n:=S+1) rfl rfl (by k_ne) rfl H.f_casU64 (x_casU64_n L) (x_casU64_b L) (x_casU64_x L) .u64 (x_casU64_f L) rfl rfl rfl hw.cellSt (hw.thaw 0) (by rw[<-hS];simp only[KK];omega),40,?_⟩;clear hw;refine je ?_
   walk_nrm
   u_op lr hK;u_c cy lr hK;u_c qX lr hK;u_leave1 H.f_uCas lr hK;u_c cy lr hK;u_cond false lr hK;u_c nF lr hK;u_c stepG_inBlock lr hK;u_c stepG_inLoop lr hK;exact Goes.stop fun w₁ r=>⟨_,rfl,aq,aq,lr hK r⟩
end
end
section
open Go.Conc
open Go.ConcN (ShN fork_knows Deaf_absent RelBy)
open Go.ConcR (stA)
def kX(b:Nat)(l:Loc):Prop:=(∃a:Addr,l=.cell a/\a.block=b)\/l=.obj b
theorem kX.one{b b' l}(h:kX b l)(k:kX b' l):b=b':=by rcases h with⟨a,rfl,rfl⟩|rfl<;>rcases k with⟨c,e,rfl⟩|e<;>cases e<;>rfl
theorem kX.low{b B l}(h:kX b l)(c:l.low B):b<B:=by rcases h with⟨a,rfl,rfl⟩|rfl<;>exact c
theorem kX.memory{b l}(h:kX b l):l.isMemory=true:=by rcases h with⟨a,rfl,_⟩|rfl<;>rfl
theorem kX.sh{b Wg l}(h:kX b l)(c:ShN Wg l):b=Wg:=by obtain⟨a,rfl,rfl⟩:=c;rcases h with⟨d,e,rfl⟩|e<;>cases e;rfl
theorem Tf{x:sx}{B:Nat}{t:Touch}(h:x.low B)(a:x.touch?=some t):t.loc.low B:=by
 cases x with
 |access e=>cases a;exact h
 |mark m=>cases m<;>first|(cases a;exact h)|cases a
 |_=>cases a
def GQ(Wg:Nat)(O:Nat->Prop)(k:Nat)(x:Touch):Prop:=(∃b,O b/\kX b x.loc)\/x.loc.isMemory=false\/(ShN Wg x.loc/\x.kind≠.plain/\(x.kind=.said->k=0))
theorem gI.bS{Wg O B a}(h:gI Wg O B a)(k){x}(g:a.touch?=some x):GQ Wg O k x:=by
 rcases h.touch x g with⟨b,e,c⟩|⟨r,e,c⟩|e|⟨b,e,f,d⟩
 ·exact .inl ⟨_,c,.inl ⟨b,e,rfl⟩⟩
 ·exact .inl ⟨r,c,.inr e⟩
 ·exact .inr (.inl (by rw[e];rfl))
 ·exact .inr (.inr ⟨⟨b,e,f⟩,by rw[d];simp,by rw[d];simp⟩)
def kB(Ow:Nat->Nat->Prop)(k:Nat)(O:Nat->Prop):Nat->Nat->Prop:=fun a b=>(a=k/\O b)\/(a≠k/\Ow a b)
structure TC(Wg:Nat)(Ow:Nat->Nat->Prop)(B:Nat)(t:eW):Prop where
 quiet:Quiet (ShN Wg) t
 own:∀k b,Ow k b->∀l,kX b l->Perm t k l
 one:∀k a b,Ow k b->Ow a b->k=a
 wg:∀k,¬Ow k Wg
 lt:∀k b,Ow k b->b<B
 pO:Wg<B
 nr:∀said,¬Race said t
 low:∀op∈t,op.act.low B
section
variable {Wg:Nat} {Ow:Nat->Nat->Prop} {B:Nat} {t u:eW}
theorem TC.fresh(h:TC Wg Ow B t){b:Nat}(j:B<=b)(k){l:Loc}(d:kX b l):Perm t k l:=fun i a c e=>by obtain⟨z,f,g⟩:=touch_of c;have:=Tf (h.low z (lC f)) g;rw[e]at this;have:=d.low this;omega
theorem TC.app(h:TC Wg Ow B t){k O B'}(s:B<=B')(q:∀b,O b->Ow k b\/B<=b)(E:∀b,O b->b<B')(m:∀op∈u,op.g=k/\(∀x,op.act.touch?=some x->GQ Wg O k x)/\op.act.low B'):TC Wg (kB Ow k O) B' (t++u):=by
 have z:¬O Wg:=fun f=>(q _ f).elim (h.wg k) fun c=>by have:=h.pO;omega
 have C:∀b,O b->∀l,kX b l->Perm t k l:=fun b c l j=>(q b c).elim (fun f=>h.own k b f l j) fun v=>h.fresh v k j;refine⟨h.quiet.app fun op hop x p o=>?_,fun n b c l j=>?_,fun J K b h1 d=>?_,fun n D=>?_,fun n b c=>?_,cV h.pO s,fun H=>?_,fun op hop=>?_⟩
 ·rcases(m op hop).2.1 x p with⟨b,f,c⟩|hm|⟨_,h1,d⟩
  ·exact absurd (c.sh o▸f) z
  ·obtain⟨a,e,_⟩:=o;rw[e]at hm;cases hm
  ·exact⟨h1,fun e=>(m op hop).1.trans (d e)⟩
 ·rcases c with⟨rfl,c⟩|⟨w,c⟩
  ·exact(C b c l j).app fun op hop _ _ _=>(m op hop).1
  ·refine(h.own n b c l j).app fun op hop x p e=>?_;exfalso;rcases(m op hop).2.1 x p with⟨I,f,v⟩|hm|⟨o,_⟩
   ·obtain rfl:=kX.one (e▸v) j;rcases q _ f with h1|h1
    ·exact w (h.one _ _ _ c h1)
    ·have:=h.lt _ _ c;omega
   ·rw[e,j.memory]at hm;cases hm
   ·obtain rfl:=kX.sh j (e▸o);exact h.wg _ c
 ·have bU:∀n,n≠k->Ow n b->O b->False:=fun n w h1 d=>(q b d).elim (fun y=>w (h.one _ _ _ h1 y)) fun y=>by have:=h.lt _ _ h1;omega
  rcases h1 with⟨rfl,h1⟩|⟨F,h1⟩<;>rcases d with⟨rfl,d⟩|⟨G,d⟩
  ·rfl
  ·exact(bU _ G d h1).elim
  ·exact(bU _ F h1 d).elim
  ·exact h.one _ _ _ h1 d
 ·rcases D with⟨_,h1⟩|⟨_,h1⟩
  ·exact z h1
  ·exact h.wg _ h1
 ·rcases c with⟨_,h1⟩|⟨_,h1⟩
  ·exact E b h1
  ·exact cV (h.lt _ _ h1) s
 ·refine GA (g:=k) (h.nr H) (fun op hop=>(m op hop).1) fun i a A op hop x p r=>?_;rcases(m op hop).2.1 x p with⟨b,f,c⟩|hm|⟨o,h1,d⟩
  ·exact C b f x.loc c i a A r.1
  ·have:=r.2.1;rw[r.1,hm]at this;cases this
  ·exact h.quiet.known o h1 d i a A r
 ·rcases tP.1 hop with hop|hop
  ·exact MemAct.low_mono s (h.low op hop)
  ·exact(m op hop).2.2
theorem TC.fork(h:TC Wg Ow B t){c}(M:c≠0){A R}(s:∀b,A b->Ow 0 b)(hR:∀b,R b->Ow 0 b)(C:∀b,A b->¬R b)(hc:∀b,¬Ow c b){x y}(n:x.g=0/\x.act=.go c)(o:y.g=c/\y.act=.start)(h0:Deaf t 0=0)(D:Deaf t c=0):
  TC Wg (kB (kB Ow 0 R) c A) B (t++#[x,y]):=by
 have m:∀op∈#[x,y],∀b,op.act.touch?=some b->False:=by
  intro op hop b d;simp at hop;rcases hop with rfl|rfl
  ·rw[n.2]at d;cases d
  ·rw[o.2]at d;cases d
 have old:∀{i:Nat} {a:Touch},touchAt (t++#[x,y]) i=some a->touchAt t i=some a:=by
  intro i a j;obtain⟨z,G,w⟩:=touch_of j;rcases getElem?_append_cases G with⟨_,H⟩|⟨_,I⟩
  ·rw[Cv H];exact w
  ·exact(m z I a w).elim
 have sub:∀k b,kB (kB Ow 0 R) c A k b->Ow k b\/(k=c/\Ow 0 b/\A b):=by
  rintro k b (⟨rfl,d⟩|⟨_,⟨rfl,d⟩|⟨_,d⟩⟩)
  ·exact .inr ⟨rfl,s b d,d⟩
  ·exact .inl (hR b d)
  ·exact .inl d
 refine⟨h.quiet.app fun op hop b d _=>(m op hop b d).elim,fun k b d l v=>?_,fun J K b f r=>?_,fun k E=>?_,fun k b d=>?_,h.pO,fun L=>?_,fun op hop=>?_⟩
 ·rcases sub k b d with f|⟨rfl,f,_⟩
  ·exact(h.own k b f l v).app fun op hop b d _=>(m op hop b d).elim
  ·exact fun i a j e=>fork_knows n o h0 D (h.own 0 b f l v i a (old j) e)
 ·have key:∀k,kB (kB Ow 0 R) c A k b->A b->k=c:=by
   rintro k (⟨rfl,_⟩|⟨N,⟨rfl,d⟩|⟨F,d⟩⟩) j
   ·rfl
   ·exact absurd d (C b j)
   ·exact absurd (h.one _ _ _ d (s b j)) F
  rcases sub J b f with p|⟨rfl,_,p⟩<;>rcases sub K b r with q|⟨rfl,_,q⟩
  ·exact h.one _ _ _ p q
  ·exact key _ f q
  ·exact(key _ r p).symm
  ·rfl
 ·rcases sub k Wg E with f|⟨_,f,_⟩<;>exact h.wg _ f
 ·rcases sub k b d with f|⟨_,f,_⟩<;>exact h.lt _ _ f
 ·have e:t++#[x,y]=(t++#[x])++#[y]:=by apply xz;simp
  rw[e]
  refine GA (g:=c) (GA (g:=0) (h.nr L) (fun op hop=>by simp at hop;rw[hop];exact n.1) (fun i a _ op hop b d _=>(m op (by simp at hop⊢;exact .inl hop) b d).elim))
   (fun op hop=>by simp at hop;rw[hop];exact o.1) (fun i a _ op hop b d _=>(m op (by simp at hop⊢;exact .inr hop) b d).elim)
 ·rcases tP.1 hop with hop|hop
  ·exact h.low op hop
  ·simp at hop;rcases hop with rfl|rfl
   ·rw[n.2];trivial
   ·rw[o.2];trivial
theorem TC.mute(h:TC Wg Ow B t)(m:∀op∈u,op.act.touch?=none)(e:∀op∈u,op.act.low B)(d:∃k,∀op∈u,op.g=k):TC Wg Ow B (t++u):=by
 obtain⟨k,d⟩:=d;have f:∀op∈u,∀b,op.act.touch?=some b->False:=fun op hop b c=>by grind
 refine⟨h.quiet.app fun op hop b c _=>(f op hop b c).elim,fun k b c l e=>(h.own k b c l e).app fun op hop b c _=>(f op hop b c).elim,h.one,h.wg,h.lt,h.pO,fun j=>GA (g:=k) (h.nr j) d fun i a _ op hop b c _=>(f op hop b c).elim,fun op hop=>?_⟩;rcases tP.1 hop with hop|hop
 ·exact h.low op hop
 ·exact e op hop
end
end
section
open Go.Conc
open Go.ConcN (ShN RelBy)
open Go.ConcR (stA)
structure iq(Wg:Nat)(t:eW)(k r:Nat):Prop where
 by_:RelBy (stA Wg) t k r
 aft:∀i,r<i->t.g? i=some k->∀x,touchAt t i=some x->ShN Wg x.loc/\x.kind=.atomic
structure KT(Shun:Loc->Prop)(Wg old:Nat)(t:eW):Prop where
 known:∀i a g,touchAt t i=some a->a.loc.isMemory=true->t.g? i=some g->g<old->Knows t 0 i\/((Shun a.loc\/ShN Wg a.loc)/\a.kind=.atomic)
 over:∀i g,t.g? i=some g->g≠0->g<old->t.counts i->∃j,t.g? j=some 0/\LK t i j
 norel:∀i,t.act? i≠some (.mark (.release (stA Wg)))
section
variable {Shun:Loc->Prop} {Wg old:Nat} {t u:eW}
theorem wJ{i g}(h:(t++u).g? i=some g):(i<t.size/\t.g? i=some g)\/(t.size<=i/\∃op∈u,(t++u)[i]? =some op/\op.g=g):=by
 unfold uj at h;obtain⟨op,c,rfl⟩:=ep.1 h;rcases getElem?_append_cases c with⟨b,a⟩|⟨b,a⟩
 ·exact .inl ⟨b,by unfold uj;rw[a];rfl⟩
 ·exact .inr ⟨b,op,a,c,rfl⟩
theorem KT.app(h:KT Shun Wg old t)(o:∀op∈u,op.g=0\/old<=op.g\/op.act.touch?=none)(hr:∀op∈u,op.act≠.mark (.release (stA Wg))):KT Shun Wg old (t++u):=by
 refine⟨fun i a g f hm k l=>?_,fun i g k n l m=>?_,fun i c=>?_⟩
 ·rcases wJ k with⟨c,b⟩|⟨c,op,d,b,rfl⟩
  ·rw[touchAt_old c]at f;exact(h.known i a g f hm b l).imp (fun x=>x.app u) id
  ·rcases o op d with h2|h2|h2
   ·have:=knows_own b;rw[h2]at this;exact .inl this
   ·omega
   ·rw[Cv b,h2]at f;cases f
 ·rcases wJ k with⟨c,b⟩|⟨c,op,d,b,rfl⟩
  ·obtain⟨j,r,q⟩:=h.over i g b n l ((counts_old c).1 m);refine⟨j,?_,hb_app u q⟩;obtain⟨z,p,v⟩:=ep.1 r;unfold uj;rw[getElem?_append_old (vY p),p];exact dG some v
  ·rcases o op d with h2|h2|h2
   ·exact absurd h2 n
   ·omega
   ·obtain⟨x,s,_⟩:=m;have:touchAt (t++u) i=some x:=s;rw[Cv b,h2]at this;cases this
 ·unfold yd at c;obtain⟨op,d,e⟩:=ep.1 c;rcases getElem?_append_cases d with⟨_,b⟩|⟨_,b⟩
  ·exact h.norel i (by unfold yd;rw[b];exact dG some e)
  ·exact hr op b e
theorem iq.app{k r}(h:iq Wg t k r)(d:∀i,t.size<=i->(t++u).g? i=some k->¬(t++u).counts i)(m:∀op∈u,op.g=k->∀x,op.act.touch?=some x->ShN Wg x.loc/\x.kind=.atomic):iq Wg (t++u) k r:=by
 refine⟨h.by_.app d,fun i f e x a=>?_⟩;rcases wJ e with⟨j,b⟩|⟨_,op,l,b,c⟩
 ·rw[touchAt_old j]at a;exact h.aft i f b x a
 ·rw[Cv b]at a;exact m op l c x a
theorem Q9{Ow B q}(j:TC Wg Ow B t)(e:KT Shun Wg old t)(x:t.act? q=some (.mark (.acquire (stA Wg))))(n:t.g? q=some 0)(v:t.heard q)(all:∀i g,t.g? i=some g->old<=g->∃r,iq Wg t g r/\r<q)(h0:Deaf t 0=0):
  Past (fun l=>Shun l\/ShN Wg l) B t:=by
 have h:∀{k r:Nat},iq Wg t k r->r<q->LK t r q:=fun hr c=>.single (.inr ⟨.marked c (.inr hr.by_.act) x (fun k _ _=>e.norel k),hr.by_.heard,v⟩)
 have o:∀{i k r:Nat},t.g? i=some k->iq Wg t k r->r<q->i<=r->LK t i q:=fun{i k r} b hr c E=>by
  rcases lE i r with d|hge
  ·exact .trans (.single (.inl ⟨d,k,b,hr.by_.g⟩)) (h hr c)
  ·obtain rfl:i=r:=ak;exact h hr c
 refine⟨j.nr,fun i a f hm=>?_,fun i g b w m=>?_,h0,j.low⟩
 ·obtain⟨z,D,_⟩:=touch_of f;have b:t.g? i=some z.g:=by unfold uj;rw[D];rfl
  rcases lE z.g old with d|hge
  ·exact e.known i a _ f hm b d
  ·obtain⟨r,hr,c⟩:=all i _ b hge;rcases lE r i with h1|h1
   ·obtain⟨p,s⟩:=hr.aft i h1 b a f;exact .inr ⟨.inr p,s⟩
   ·obtain⟨y,A,C⟩:=ep.1 n;exact .inl ⟨q,y,A,C,.inr (o b hr c h1)⟩
 ·rcases lE g old with d|hge
  ·exact e.over i g b w d m
  ·obtain⟨r,hr,c⟩:=all i g b hge;exact⟨q,n,o b hr c (Nat.le_of_not_lt fun d=>hr.by_.after i d b m)⟩
theorem TC.start{c:Nat->Prop}{B:Nat}(h:Past Shun B t)(hc:∀b,c b->∀l,kX b l->¬Shun l)(q:∀b,c b->b<B)(s:¬c Wg)(v:Wg<B)(r:∀op∈t,∀x,op.act.touch?=some x->¬ShN Wg x.loc):TC Wg (fun k b=>k=0/\c b) B t:=by refine⟨fun i op x o w f=>absurd f (r op (lC o) x w),?_,fun k y b j m=>j.1.trans m.1.symm,fun k p=>s p.2,fun k b d=>q b d.2,v,h.clean,h.seen⟩;rintro k b ⟨rfl,d⟩ l g i a n e;subst e;exact(h.known i a n g.memory).resolve_right fun f=>hc b d _ g f.1
theorem KT.start{B}(h:Past Shun B t)(hr:∀i,t.act? i≠some (.mark (.release (stA Wg)))):KT Shun Wg old t:=
 ⟨fun i a _ b hm _ _=>(h.known i a b hm).imp id fun x=>⟨.inl x.1,x.2⟩,fun i g d e _ c=>h.over i g d e c,hr⟩
end
end
section
open Go.Conc
open Go.ConcN (ShN WgLive RW Has AtR0 AtK1 AtD1 AtD2 AtD3 AtD4 DWs)
open Go.ConcR (KK WgAt stA smA rd wr mk Payload DC0)
section
variable {S:Type} (r e:S->S->Prop)
def Down(n:Nat)(f' f:Nat->S):Prop:=∃i,i<n/\r (f' i) (f i)/\∀j,j<n->j≠i->e (f j) (f' j)
variable {r e}
theorem Ng(b:∀s a x,e s a->r x a->r x s){s a}(h:Acc r s)(k:e s a):Acc r a:=.intro _ fun x c=>h.inv (b s a x k c)
theorem Ig(d:∀s y x,e s y->r x y->r x s):∀(n:Nat) (f:Nat->S),(∀i,i<n->Acc r (f i))->Acc (Down r e n) f
 |0,f,_=>.intro _ fun f' ⟨i,o,_⟩=>absurd o (qU _)
 |n+1,f,g=>by
  have all:∀{f f':Nat->S} {m:Nat},Down r e m f' f->(∀i,i<m->Acc r (f i))->∀i,i<m->Acc r (f' i):=fun{f f' m} ⟨i,_,l,c⟩ h j b=>by
   by_cases v:j=i
   ·subst v;exact(h j b).inv l
   ·exact Ng d (h j b) (c j b v)
  have key:∀a,Acc r a->∀f,Acc (Down r e n) f->(∀i,i<n->Acc r (f i))->(∀x,r x (f n)->r x a)->Acc (Down r e (n+1)) f:=by
   intro a z;induction z with
   |intro a _ C=>
    intro f g;induction g with
    |intro f _ D=>
     intro p w;refine .intro _ fun f' A=>?_;obtain⟨i,o,l,c⟩:=A
     by_cases u:i=n
     ·subst u;have q:∀j,j<i->Acc r (f' j):=fun j b=>Ng d (p j b) (c j ak ak);exact C (f' i) (w _ l) f' (Ig d i f' q) q fun x k=>k
     ·have t:Down r e n f' f:=⟨i,ak,l,fun j b B=>c j ak B⟩;exact D f' t (all t p) fun x k=>w x (d _ _ x (c n ak (fun e=>u e.symm)) k)
  exact key (f n) (g n ak) f (Ig d n f fun i o=>g i ak) (fun i o=>g i ak) fun x k=>k
end
inductive Ph|work|said|deaf|nV|rC|lq|quit
def sK(ty:aK)(Wg:Nat):Ph->an->Prop
 |.deaf,w=>∃v wt:Nat,wt<=1/\v<2147483647/\WgAt ty Wg w ((v+1) *KK+wt) 0
 |.nV,w=>WgAt ty Wg w 1 0
 |.rC,w=>WgAt ty Wg w 1 0
 |.lq,w=>WgAt ty Wg w 0 0
 |_,_=>True
inductive eP(ty:aK)(Wg:Nat)(O:Nat->Prop)(w:an):Ph->an->Array sx->Ph->Prop
 |own {w':an} {b:Array sx} (h:sJ O w w') (k:∀a∈b,gI Wg (eB O w w') w'.heap.size a):eP ty Wg O w .work w' b .work
 |rel:eP ty Wg O w .work w #[.mark (.releaseMerge (stA Wg))] .said
 |idle {p:Ph} (d:p≠.work) (c:p≠.quit):eP ty Wg O w p w #[] p
 |gP:eP ty Wg O w .said w #[.mark .disable] .deaf
 |add {v wt:Nat} (h:WgAt ty Wg w ((v+1) *KK+wt) 0) (f:wt<=1) (hv:v<2147483647) {q:Ph} (c:(v=0/\wt=1/\q=.nV)\/(¬(v=0/\wt=1)/\q=.quit)):eP ty Wg O w .deaf (w.setCell (stA Wg) (.int .u64 (v*KK+wt))) (#[rd (stA Wg),wr (stA Wg)].map .ofEvent) q
 |look:eP ty Wg O w .nV w (#[rd (stA Wg)].map .ofEvent) .rC
 |zero:eP ty Wg O w .rC (w.setCell (stA Wg) (.int .u64 0)) (#[wr (stA Wg)].map .ofEvent) .lq
 |post:eP ty Wg O w .lq (w.setCell (smA Wg) (.int .u32 1)) ((semEvents (smA Wg)).map .ofEvent) .quit
inductive WS(P:aN)(ty:aK)(Wg:Nat)(Q:(Nat->Prop)->an->Prop):Ph->(Nat->Prop)->bw->an->Prop
 |quit {O:Nat->Prop} {g:bw} {w:an} {n:Nat} (h:QuitsD P n 1 g) (l:∀a,Rel ty Wg O w a->Q O a):WS P ty Wg Q .quit O g w
 |step {p:Ph} {O:Nat->Prop} {g:bw} {w:an} (j:p≠.quit) (i:g.status=.running) (q:an->Ph)
   (h:∀a,Rel ty Wg O w a->sK ty Wg p a->∃c b d,ir P false g a c b d/\eP ty Wg O a p b d (q a))
   (m:∀a,Rel ty Wg O w a->sK ty Wg p a->p=.lq->q a=.quit->Cr P g=true/\∃c b f,stepG P false g a=.go c b f)
   (k:∀a c b d,Rel ty Wg O w a->sK ty Wg p a->ir P false g a c b d->WS P ty Wg Q (q a) (eB O a b) c b):WS P ty Wg Q p O g w
section
variable [aA] [aW] {P:aN} {ty:aK} {Wg:Nat} {Q:(Nat->Prop)->an->Prop}
theorem rO{O' w a v}(f:a.block=Wg)(d:¬O' Wg)(c:WgLive ty Wg (w.setCell a v)):Rel ty Wg O' w (w.setCell a v):=
 ⟨fun b g=>(aside_setCell w a v).block b fun e=>d (by grind),aq,fun _=>c,by simp[fD]⟩
theorem KS{main g g1 g2 w w1 w2 es bJ}(h:stepG P main g w=.go g1 w1 es)(k:ir P main g w g2 w2 bJ):g2=g1/\w2=w1/\bJ=es.map .ofEvent:=by obtain⟨a,b,c⟩:=KR k (.go h);exact⟨a,b,c⟩
theorem afn{Stop O g w}(h:CJ P false ty Wg Stop O g w)(l:∀O g w,(∀a,Rel ty Wg O w a->Stop O g a)->WS P ty Wg Q .work O g w):WS P ty Wg Q .work O g w:=by
 induction h with
 |stop h=>exact l _ _ _ h
 |step k h _ n=>
  refine .step aq k (fun _=>.work) (fun a r _=>?_) (fun _ _ _ e=>by cases e) fun a c d b r _ m=>n a c d b r m;obtain⟨c,d,b,f,i,j⟩:=h a r;exact⟨c,d,b,f,.own i j⟩
theorem Iy(O w):eB O w w=O:=by
 funext b
 apply propext;constructor
 ·rintro(h|⟨a,c⟩)
  ·exact h
  ·omega
 ·exact .inl
theorem zB{R Stop p}(n:p≠.work)(i:p≠.quit){O}(hR:∀a b,Rel ty Wg O a b->R a b){wb}(l:∀g w,Rel ty Wg O wb w->(∀c,Rel ty Wg O w c->Stop g c)->WS P ty Wg Q p O g w):
  ∀(m:Nat) (g:bw) (w:an),Rel ty Wg O wb w->Goes P false R DC0 Stop m g w->WS P ty Wg Q p O g w
 |0,g,w,f,h=>l g w f fun c r=>h c (hR _ _ r)
 |m+1,g,w,f,h=>by
  rcases h with h|⟨q,h⟩
  ·exact l g w f fun c r=>h c (hR _ _ r)
  have one:∀c,Rel ty Wg O w c->∃d,stepG P false g c=.go d c #[]/\Goes P false R DC0 Stop m d c:=fun c r=>by
   have:=h c (hR _ _ r);revert this;cases z:stepG P false g c with
   |go d t x=>
    rintro⟨⟨rfl,rfl⟩,k⟩;exact⟨d,rfl,k⟩
   |_=>intro h;exact h.elim
  refine .step i q (fun _=>p) (fun c r _=>?_) (fun c _ _ v o=>absurd o i) fun c d t u r _ s=>?_
  ·obtain⟨d,j,_⟩:=one c r;exact⟨d,c,#[],by have:=ir.go j;simpa using this,.idle n i⟩
  ·obtain⟨y,j,k⟩:=one c r;obtain⟨rfl,rfl,rfl⟩:=KS j s;rw[Iy];exact zB n i hR l m _ _ (f.trans r) k
end
end
section
open Go.Conc Go.Conc.Lib Go.ConcN.Gen Go.ConcR.Gen
open Go.ConcN (ShN WgLive RW PayAt Has AtR0 AtK1 AtD1 AtD2 AtD3 AtD4 DWs EvW)
open Go.ConcR (KK WgAt stA smA rd wr mk Payload DC0)
section
variable [aA] [aW] [Payload] {P:aN} {ty:aK} {Wg C n:Nat} {O:Nat->Prop} {Q:(Nat->Prop)->an->Prop}
theorem qF(a:O C){i w w₁}(r:Rel ty Wg O w w₁):RW ty Wg C n 0 i w w₁:=
 ⟨fun b e=>absurd e (qU _),r.live,fun⟨cs,c,d⟩=>⟨cs,(r.own C a).trans c,d⟩,by unfold World.cell?;simp only[r.own C a]⟩
theorem tJ(Low i w):RW ty Wg C n Low i w w:=⟨fun _ _ _ _=>rfl,id,id,rfl⟩
theorem Zw{w w'}(h:w'.heap.size=w.heap.size):eB O w w'=O:=by
 funext b
 apply propext;constructor
 ·rintro(a|⟨a,c⟩)
  ·exact a
  ·omega
 ·exact .inl
theorem G0:#[UQ .disable]=#[mk .disable].map cI:=by simp[mk,cI]
theorem G2(Wg):#[UQ (.releaseMerge (stA Wg))]=#[mk (.releaseMerge (stA Wg))].map cI:=by simp[mk,cI]
theorem xu{p g w}(o:p≠.quit)(m:g.status=.running)(q:an->Ph)(t:p=.lq->Cr P g=true)(h:∀a,Rel ty Wg O w a->sK ty Wg p a->∃c b d,stepG P false g a=.go c b d/\eP ty Wg O a p b (d.map .ofEvent) (q a)/\b.heap.size=a.heap.size/\WS P ty Wg Q (q a) O c b):WS P ty Wg Q p O g w:=by
 refine .step o m q (fun a r e=>?_) (fun a r e i _=>⟨t i,by obtain⟨c,b,d,f,_⟩:=h a r e;exact⟨c,b,d,f⟩⟩) fun a c b u r e s=>?_
 ·obtain⟨c,b,d,f,j,_,_⟩:=h a r e;exact⟨c,b,_,.go f,j⟩
 ·obtain⟨v,x,d,f,_,k,l⟩:=h a r e;obtain⟨rfl,rfl,rfl⟩:=KS f s;rw[Zw k];exact l
theorem afj(i:¬O Wg){wb}(f:∀a,Rel ty Wg O wb a->Q O a){g w}(j:Rel ty Wg O wb w)(h:∀a,Rel ty Wg O w a->AtD4 P ty Wg g a):WS P ty Wg Q .lq O g w:=by obtain⟨k,hm,_⟩:=h w (.refl ..);refine xu aq k (fun _=>.quit) (fun _=>hm) fun a r e=>?_;obtain⟨b,c,q,d⟩:=(h a r).2.2 e;exact⟨b,_,_,c,.post,aq,.quit d fun m l=>f m ((j.trans r).trans ((rO rfl i ⟨_,_,e.setSm _⟩).trans l))⟩
theorem afi(j:O C)(d:¬O Wg){wb}(k:∀a,Rel ty Wg O wb a->Q O a){g w}(b:Rel ty Wg O wb w)(h:∀a,Rel ty Wg O w a->AtD3 P ty Wg C n 0 1 g a):WS P ty Wg Q .rC O g w:=by refine xu aq (h w (.refl ..)).1 (fun _=>.lq) (fun e=>by cases e) fun a r e=>?_;obtain⟨c,f,m,i⟩:=(h a r).2 e;exact⟨c,_,_,f,.zero,aq,zB aq aq (fun _ _ r=>qF j r) (fun g w b h=>afj d k b h) m c _ ((b.trans r).trans (rO rfl d ⟨_,_,e.setSt _⟩)) i⟩
theorem afh(d:O C)(k:¬O Wg){wb}(j:∀a,Rel ty Wg O wb a->Q O a){g w}(b:Rel ty Wg O wb w)(h:∀a,Rel ty Wg O w a->AtD2 P ty Wg C n 0 1 g a):WS P ty Wg Q .nV O g w:=by refine xu aq (h w (.refl ..)).1 (fun _=>.rC) (fun e=>by cases e) fun a r e=>?_;obtain⟨c,f,m,i⟩:=(h a r).2 e;exact⟨c,_,_,f,.look,rfl,zB aq aq (fun _ _ r=>qF d r) (fun g w b h=>afi d k j b h) m c _ (b.trans r) i⟩
open Classical in
theorem afg(p:O C)(k:¬O Wg){wb}(s:∀a,Rel ty Wg O wb a->Q O a){g w}(f:Rel ty Wg O wb w)(h:∀a,Rel ty Wg O w a->AtD1 P ty Wg C n 0 1 g a):WS P ty Wg Q .deaf O g w:=by
 refine xu aq (h w (.refl ..)).1 (fun a=>if WgAt ty Wg a (KK+1) 0 then .nV else .quit) (fun e=>by cases e) fun a r e=>?_;obtain⟨v,wt,l,hv,b⟩:=e;obtain⟨i,o,t,u⟩:=(h a r).2 v wt l hv b
 by_cases d:v=0/\wt=1
 ·have c:WgAt ty Wg a (KK+1) 0:=by obtain⟨rfl,rfl⟩:=d;simpa using b
  refine⟨i,_,_,o,?_,aq,?_⟩
  ·rw[aM c];exact .add b l hv (.inl ⟨d.1,d.2,rfl⟩)
  ·rw[aM c];obtain⟨m,j⟩:=t d;exact zB aq aq (fun _ _ r=>qF p r) (fun g w f h=>afh p k s f h) m i _ ((f.trans r).trans (rO rfl k ⟨_,_,b.setSt _⟩)) j
 ·have c:¬WgAt ty Wg a (KK+1) 0:=fun c=>d (by
   have:=(b.unique c).1;simp only[KK]at this;omega)
  refine⟨i,_,_,o,?_,aq,?_⟩
  ·rw[aD c];exact .add b l hv (.inr ⟨d,rfl⟩)
  ·rw[aD c];obtain⟨q,j⟩:=u d;exact .quit j fun y x=>s y ((f.trans r).trans ((rO rfl k ⟨_,_,b.setSt _⟩).trans x))
theorem afm(d:O C)(k:¬O Wg){wb}(j:∀a,Rel ty Wg O wb a->Q O a){g w}(b:Rel ty Wg O wb w)(h:∀a,Rel ty Wg O w a->AtK1 P ty Wg C n 0 1 g a):WS P ty Wg Q .said O g w:=by refine xu aq (h w (.refl ..)).1 (fun _=>.deaf) (fun e=>by cases e) fun a r _=>?_;obtain⟨_,c,f,m,i⟩:=h a r;exact⟨c,_,_,f,G0▸.gP,rfl,zB aq aq (fun _ _ r=>qF d r) (fun g w b h=>afg d k j b h) m c _ (b.trans r) i⟩
variable {val:Value}
theorem K6:∀(a m:Nat) (g:bw) (w:an),Goes P false (Rel ty Wg O) DC0 (ZR2 P) a g w->Goes P false (RW ty Wg C n 0 (1-1)) (DWs Wg (fun _ _=>False) (fun _ _=>False) C n 1) (AtR0 P ty Wg C n 0 1 val) m g w->False:=by
 intro a;induction a with
 |zero=>
  intro m g w h k;obtain⟨l,j,c⟩:=h w (.refl ..);cases m with
  |zero=>
   obtain⟨_,_,d,b,_⟩:=k w (tJ ..);rw[c]at b;cases b
  |succ m=>
   rcases k with k|⟨_,k⟩
   ·obtain⟨_,_,d,b,_⟩:=k w (tJ ..);rw[c]at b;cases b
   ·have:=k w (tJ ..);rw[c]at this;exact(this.1.2 (mk .disable) aq).2.1 rfl
 |succ a o=>
  intro m g w h k;rcases h with h|⟨l,h⟩
  ·obtain⟨l,j,c⟩:=h w (.refl ..);cases m with
   |zero=>
    obtain⟨_,_,d,b,_⟩:=k w (tJ ..);rw[c]at b;cases b
   |succ m=>
    rcases k with k|⟨_,k⟩
    ·obtain⟨_,_,d,b,_⟩:=k w (tJ ..);rw[c]at b;cases b
    ·have:=k w (tJ ..);rw[c]at this;exact(this.1.2 (mk .disable) aq).2.1 rfl
  ·have h0:=h w (.refl ..);cases f:stepG P false g w with
   |go j i p=>
    rw[f]at h0;obtain⟨⟨rfl,rfl⟩,b⟩:=h0;cases m with
    |zero=>
     obtain⟨_,_,d,e,_⟩:=k i (tJ ..);rw[f]at e;cases e
    |succ m=>
     rcases k with k|⟨_,k⟩
     ·obtain⟨_,_,d,e,_⟩:=k i (tJ ..);rw[f]at e;cases e
     ·have:=k i (tJ ..);rw[f]at this;exact o m j i b this.2
   |_=>rw[f]at h0;exact h0.elim
theorem afk(c:O C)(u:¬O Wg){wb}(t:∀b,Rel ty Wg O wb b->Q O b):∀(a m:Nat) (g:bw) (w:an),Rel ty Wg O wb w->Goes P false (Rel ty Wg O) DC0 (ZR1 P ty Wg O) a g w->Goes P false (RW ty Wg C n 0 (1-1)) (DWs Wg (fun _ _=>False) (fun _ _=>False) C n 1) (AtR0 P ty Wg C n 0 1 val) m g w->WS P ty Wg Q .work O g w:=by
 have stop:∀(m:Nat) (g:bw) (w:an),Rel ty Wg O wb w->(∀b,Rel ty Wg O w b->ZR1 P ty Wg O g b)->Goes P false (RW ty Wg C n 0 (1-1)) (DWs Wg (fun _ _=>False) (fun _ _=>False) C n 1) (AtR0 P ty Wg C n 0 1 val) m g w->WS P ty Wg Q .work O g w:=by
  intro m g w d h k;refine xu aq (h w (.refl ..)).1 (fun _=>.said) (fun e=>by cases e) fun b r _=>?_;obtain⟨_,l,q,a,p⟩:=h b r
  have hR:AtR0 P ty Wg C n 0 1 val g b:=by
   cases m with
   |zero=>exact k b (qF c r)
   |succ m=>
    rcases k with k|⟨_,k⟩
    ·exact k b (qF c r)
    ·have:=k b (qF c r);rw[q]at this;exact(K6 a m l b p this.2).elim
  obtain⟨_,_,o,f,m2,s⟩:=hR;exact⟨o,_,_,f,(G2 Wg)▸.rel,rfl,zB aq aq (fun _ _ r=>qF c r) (fun g w d h=>afm c u t d h) m2 o _ (d.trans r) s⟩
 intro a;induction a with
 |zero=>exact fun m g w d h k=>stop m g w d h k
 |succ a y=>
  intro m g w d h k;rcases h with h|⟨x,h⟩
  ·exact stop m g w d h k
  refine xu aq x (fun _=>.work) (fun e=>by cases e) fun b r _=>?_;have h0:=h b r;cases i:stepG P false g b with
  |go l j z=>
   rw[i]at h0;obtain⟨⟨rfl,rfl⟩,p⟩:=h0;refine⟨l,j,#[],rfl,.own ⟨fun _ _ _=>rfl,aV _,rfl,rfl,rfl⟩ (fun a v=>by simp at v),rfl,?_⟩;cases m with
   |zero=>
    obtain⟨_,_,o,f,_⟩:=k j (qF c r);rw[i]at f;cases f
   |succ m=>
    rcases k with k|⟨_,k⟩
    ·obtain⟨_,_,o,f,_⟩:=k j (qF c r);rw[i]at f;cases f
    ·have:=k j (qF c r);rw[i]at this;exact y m l j (d.trans r) p this.2
  |_=>rw[i]at h0;exact h0.elim
theorem afl{L}(H:WgLib P L)(d:O C)(g:¬O Wg){c cs qt}(h:c.mode=.returning)(f:QuitsD P qt 0 (G c cs)){w}(a:WgLive L.tWg Wg w)(hv:Has C 0 val w)(e:∀b,Rel L.tWg Wg O w b->Q O b):
  WS P L.tWg Wg Q .work O (G ((baseD L.done).at ⟨#[aF Wg,undef,undef,undef],[]⟩ [.code (body_done L)]) (c::cs)) w:=
 afk (n:=0) d g e _ _ _ _ (.refl ..) (XE H w a) (doneN (k:=1) (Low:=0) (val:=val) H h f w ⟨a,hv⟩)
end
end
section
open Go.Conc
open Go.ConcN (ShN WgLive)
open Go.ConcR (KK WgAt stA smA rd wr mk)
section
variable [aA] [aW] {P:aN} {ty:aK} {Wg:Nat} {O:Nat->Prop} {Q:(Nat->Prop)->an->Prop}
theorem eP.det{w w' p q q' j}(h:eP ty Wg O w p w' j q)(k:eP ty Wg O w p w' j q'):q=q':=by
 generalize z:w'=C at k;generalize f:j=x at k;cases h with
 |own l i=>
  cases k with
  |own=>rfl
  |rel=>subst f;exact absurd rfl ((i _ aq).JZ (stA Wg))
  |idle g=>exact absurd rfl g
 |rel=>
  cases k with
  |own l i=>subst f;exact absurd rfl ((i _ aq).JZ (stA Wg))
  |rel=>rfl
  |idle g=>exact absurd rfl g
 |idle g m=>
  cases k with
  |own=>exact absurd rfl g
  |rel=>exact absurd rfl g
  |idle=>rfl
  |gP=>simp at f
  |add=>simp at f
  |look=>simp at f
  |zero=>simp at f
  |post=>simp[semEvents]at f
 |gP=>
  cases k with
  |idle=>simp at f
  |gP=>rfl
 |@add v wt l i y _ m=>
  cases k with
  |idle=>simp at f
  |@add t u r A B _ s=>
   have e:=(l.unique r).1;simp only[KK]at e;have n:v=t:=ak;have o:wt=u:=ak;subst n o;rcases m with⟨a,b,rfl⟩|⟨a,rfl⟩<;>rcases s with⟨c,d,rfl⟩|⟨c,rfl⟩
   ·rfl
   ·exact absurd ⟨a,b⟩ c
   ·exact absurd ⟨c,d⟩ a
   ·rfl
 |look=>
  cases k with
  |idle=>simp at f
  |look=>rfl
 |zero=>
  cases k with
  |idle=>simp at f
  |zero=>rfl
 |post=>
  cases k with
  |idle=>simp[semEvents]at f
  |post=>rfl
structure mu where
 p:Ph
 O:Nat->Prop
 g:bw
 w:an
 n:Nat
def qm(P:aN)(ty:aK)(Wg:Nat)(a s:mu):Prop:=
 (s.p≠.quit/\∃b c,Rel ty Wg s.O s.w b/\sK ty Wg s.p b/\ir P false s.g b a.g a.w c/\eP ty Wg s.O b s.p a.w c a.p/\a.O=eB s.O b a.w)\/
 (s.p=.quit/\a.p=.quit/\a.n<s.n)
def yC(ty:aK)(Wg:Nat)(s a:mu):Prop:=a.p=s.p/\a.O=s.O/\a.g=s.g/\a.n=s.n/\Rel ty Wg s.O s.w a.w
theorem aeX(s i x:mu)(h:yC ty Wg s i)(k:qm P ty Wg x i):qm P ty Wg x s:=by
 obtain⟨e,l,m,n,o⟩:=h;rcases k with⟨a,p,j,b,c,f,d,g⟩|⟨a,b,c⟩
 ·rw[l]at b d g;rw[e]at a c d;rw[m]at f;exact .inl ⟨a,p,j,o.trans b,c,f,d,g⟩
 ·exact .inr ⟨e▸a,b,n▸c⟩
theorem GV:∀(n:Nat) (s:mu),s.p=.quit->s.n<=n->Acc (qm P ty Wg) s
 |0,s,h,d=>.intro _ fun c a=>by
  rcases a with⟨b,_⟩|⟨_,_,f⟩
  ·exact absurd h b
  ·omega
 |n+1,s,h,d=>.intro _ fun c a=>by
  rcases a with⟨b,_⟩|⟨_,e,f⟩
  ·exact absurd h b
  ·exact GV n c e ak
theorem afe{p g w}(h:WS P ty Wg Q p O g w):∀n,Acc (qm P ty Wg) ⟨p,O,g,w,n⟩:=by
 induction h with
 |quit h D=>exact fun n=>GV n _ rfl (aV _)
 |@step p O g w o C q h _ _ s=>
  refine fun n=>.intro _ fun v m=>?_;rcases m with⟨_,i,y,r,e,a,f,d⟩|⟨t,_⟩
  ·obtain⟨B,G,z,k,l⟩:=h i r e;obtain⟨b,c,j⟩:=KR a k;obtain⟨E,x,A,F,u⟩:=v;simp only at a f d b c;subst b c j;have:=f.det l;subst this d;exact s i _ _ _ r e a u
  ·exact absurd t o
theorem aeZ{Q:Nat->(Nat->Prop)->an->Prop}(n f)(h:∀i,i<n->(f i).p=.quit\/WS P ty Wg (Q i) (f i).p (f i).O (f i).g (f i).w):Acc (Down (qm P ty Wg) (yC ty Wg) n) f:=
 Ig aeX n f fun i a=>(h i a).elim (fun e=>GV _ _ e (aV _)) fun e=>afe e _
end
end
section
open Go.Conc Go.Conc.Lib Go.ConcN.Gen Go.ConcR.Gen
open Go.ConcN (ShN WgLive)
open Go.ConcR (KK WgAt stA smA rd wr mk Payload DC0)
inductive Mp|opn|uJ|added|ready|waiting(b:Nat)|seen(v:Nat)|reg|woken|fin|sY|back
def An(ty:aK)(Wg:Nat):Mp->an->Prop
 |.uJ,w=>∃v:Nat,v<2147483647/\WgAt ty Wg w (v*KK) 0
 |.waiting b,w=>∃v:Nat,v<=b/\v<2147483648/\WgAt ty Wg w (v*KK) 0
 |.seen b,w=>∃v:Nat,v<=b/\v<2147483648/\WgAt ty Wg w (v*KK) 0
 |.woken,w=>WgAt ty Wg w 0 0
 |_,_=>True
inductive eR(ty:aK)(Wg:Nat)(O:Nat->Prop)(w:an):Mp->an->Array sx->Mp->Prop
 |own {p:Mp} (f:p=.opn\/p=.ready) {w':an} {c:Array sx} (h:sJ O w w') (k:∀a∈c,gI Wg (eB O w w') w'.heap.size a):eR ty Wg O w p w' c p
 |idle {p:Mp} {es:Array Event} (h:DZ Wg w w es):eR ty Wg O w p w (es.map .ofEvent) p
 |gP {q:Mp} (g:q=.uJ\/∃b,q=.waiting b/\2147483646<=b):eR ty Wg O w .opn w (#[mk .disable].map .ofEvent) q
 |add {v:Nat} (h:WgAt ty Wg w (v*KK) 0) (hv:v<2147483647):eR ty Wg O w .uJ (w.setCell (stA Wg) (.int .u64 ((v+1) *KK))) (#[rd (stA Wg),wr (stA Wg)].map .ofEvent) .added
 |yH:eR ty Wg O w .added w (#[mk .enable].map .ofEvent) .ready
 |zero {b:Nat} (h:WgAt ty Wg w 0 0):eR ty Wg O w (.waiting b) w (#[rd (stA Wg)].map .ofEvent) .fin
 |saw {b v:Nat} (h:WgAt ty Wg w (v*KK) 0) (e:v<=b) (h0:v≠0):eR ty Wg O w (.waiting b) w (#[rd (stA Wg)].map .ofEvent) (.seen v)
 |hit {v:Nat} (h:WgAt ty Wg w (v*KK) 0) (h0:v≠0):eR ty Wg O w (.seen v) (w.setCell (stA Wg) (.int .u64 (v*KK+1))) (#[rd (stA Wg),wr (stA Wg)].map .ofEvent) .reg
 |Js {v d:Nat} (h:WgAt ty Wg w (d*KK) 0) (e:d<v):eR ty Wg O w (.seen v) w (#[rd (stA Wg)].map .ofEvent) (.waiting (v-1))
 |got (h:WgAt ty Wg w 0 0):eR ty Wg O w .woken w (#[rd (stA Wg)].map .ofEvent) .fin
 |Hy:eR ty Wg O w .fin w (#[mk .enable].map .ofEvent) .sY
 |acq:eR ty Wg O w .sY w (#[mk (.acquire (stA Wg))].map .ofEvent) .back
inductive MS(P:aN)(ty:aK)(Wg:Nat)(Post:Nat->(Nat->Prop)->bw->an->Prop)(Q:Nat->(Nat->Prop)->an->Prop)(M:Nat):Nat->Mp->(Nat->Prop)->bw->an->Prop
 |done {r:Nat} {O:Nat->Prop} {g:bw} {w:an} (h:∀a,Rel ty Wg O w a->Post r O g a):MS P ty Wg Post Q M r .back O g w
 |step {r:Nat} {p:Mp} {O:Nat->Prop} {g:bw} {w:an} (j:g.status=.running) (q:an->Mp)
   (h:∀a,Rel ty Wg O w a->An ty Wg p a->∃d f i,ir P true g a d f i/\eR ty Wg O a p f i (q a))
   (k:∀a d f i,Rel ty Wg O w a->An ty Wg p a->ir P true g a d f i->MS P ty Wg Post Q M r (q a) (eB O a f) d f):MS P ty Wg Post Q M r p O g w
 |sem {r:Nat} {O:Nat->Prop} {g:bw} {w:an} (j:g.status=.running) (s:g.offers=none)
   (o:∀a,Rel ty Wg O w a->(∃st,WgAt ty Wg a st 0)->stepG P true g a=.go {g with status:=.blocked} a #[])
   (h:∀a,Rel ty Wg O w a->WgAt ty Wg a 0 1->∃d,stepG P true g a=.go d (a.setCell (smA Wg) (.int .u32 0)) (semEvents (smA Wg)))
   (k:∀a d,Rel ty Wg O w a->WgAt ty Wg a 0 1->stepG P true g a=.go d (a.setCell (smA Wg) (.int .u32 0)) (semEvents (smA Wg))->MS P ty Wg Post Q M r .woken O d (a.setCell (smA Wg) (.int .u32 0))):MS P ty Wg Post Q M r .reg O g w
 |spawn {r:Nat} {O A R:Nat->Prop} {g:bw} {w:an} (hr:r<M) (j:g.status=.running) (l:∀b,A b->O b) (hR:∀b,R b->O b) (m:∀b,A b->¬R b) (n:∀b,O b->A b\/R b)
   (h:∀a,Rel ty Wg O w a->∃d e,stepG P true g a=.spawn d e a #[]/\e.status=.running)
   (c:∀a d e,Rel ty Wg O w a->stepG P true g a=.spawn d e a #[]->WS P ty Wg (Q r) .work A e a)
   (k:∀a d e,Rel ty Wg O w a->stepG P true g a=.spawn d e a #[]->MS P ty Wg Post Q M (r+1) .opn R d a):MS P ty Wg Post Q M r .ready O g w
section
variable [aA] [aW] {P:aN} {ty:aK} {Wg:Nat} {Post:Nat->(Nat->Prop)->bw->an->Prop} {Q:Nat->(Nat->Prop)->an->Prop} {M:Nat} {O:Nat->Prop} {r:Nat}
theorem MS.rely{p g w w₁}(h:MS P ty Wg Post Q M r p O g w)(hr:Rel ty Wg O w w₁):MS P ty Wg Post Q M r p O g w₁:=by
 cases h with
 |done h=>exact .done fun b a=>h b (hr.trans a)
 |step e q h k=>exact .step e q (fun b a=>h b (hr.trans a)) fun b d t i a=>k b d t i (hr.trans a)
 |sem e o n h k=>exact .sem e o (fun b a=>n b (hr.trans a)) (fun b a=>h b (hr.trans a)) fun b d a=>k b d (hr.trans a)
 |spawn s e j hR l m h c k=>exact .spawn s e j hR l m (fun b a=>h b (hr.trans a)) (fun b d f a=>c b d f (hr.trans a)) fun b d f a=>k b d f (hr.trans a)
theorem wU{Stop p}(k:p=.opn\/p=.ready){g w}(h:CJ P true ty Wg Stop O g w)(l:∀O g w,(∀a,Rel ty Wg O w a->Stop O g a)->MS P ty Wg Post Q M r p O g w):MS P ty Wg Post Q M r p O g w:=by
 induction h with
 |stop h=>exact l _ _ _ h
 |step j h _ n=>
  refine .step j (fun _=>p) (fun a r _=>?_) fun a c d b r _ m=>n a c d b r m;obtain⟨c,d,b,e,f,i⟩:=h a r;exact⟨c,d,b,e,.own k f i⟩
theorem DL{w w'}(h:w'.heap.size=w.heap.size):eB O w w'=O:=by
 funext b
 apply propext;constructor
 ·rintro(a|⟨a,c⟩)
  ·exact a
  ·omega
 ·exact .inl
theorem rF{p g w}(l:g.status=.running)(q:an->Mp)(h:∀a,Rel ty Wg O w a->An ty Wg p a->∃c b d,stepG P true g a=.go c b d/\eR ty Wg O a p b (d.map .ofEvent) (q a)/\b.heap.size=a.heap.size/\MS P ty Wg Post Q M r (q a) O c b):MS P ty Wg Post Q M r p O g w:=by
 refine .step l q (fun a r e=>?_) fun a c b n r e m=>?_
 ·obtain⟨c,b,d,f,i,_,_⟩:=h a r e;exact⟨c,b,_,.go f,i⟩
 ·obtain⟨o,s,d,f,_,j,k⟩:=h a r e;obtain⟨rfl,rfl,rfl⟩:=KS f m;rw[DL j];exact k
theorem jh{J:an->Prop}(e:∀w a,Rel ty Wg O w a->J w->J a){Stop:bw->an->Prop}{p:Mp}(c:∀g w,J w->(∀a,Rel ty Wg O w a->Stop g a)->MS P ty Wg Post Q M r p O g w):
  ∀(m:Nat) (g:bw) (w:an),J w->Goes P true (Rel ty Wg O) (DZ Wg) Stop m g w->MS P ty Wg Post Q M r p O g w
 |0,g,w,b,h=>c g w b h
 |m+1,g,w,b,h=>by
  rcases h with h|⟨k,h⟩
  ·exact c g w b h
  refine rF k (fun _=>p) fun a r _=>?_;have:=h a r;revert this;cases l:stepG P true g a with
  |go d n i=>
   rintro⟨f,j⟩;obtain rfl:=f.1;exact⟨d,_,i,rfl,.idle f,rfl,jh e c m d _ (e _ _ r b) j⟩
  |_=>intro h;exact h.elim
theorem G5{J:an->Prop}(c:∀w a,Rel ty Wg O w a->J w->J a)(k:∀w v,WgLive ty Wg (w.setCell (stA Wg) v)->J w->J (w.setCell (stA Wg) v)){Fin:bw->an->Prop}(hF:∀g w,J w->(∀a,Rel ty Wg O w a->Fin g a)->MS P ty Wg Post Q M r .ready O g w){m:Nat}{g:bw}{w:an}(d:J w)(h:Goes P true (Rel ty Wg O) (DZ Wg) (ZA1 P ty Wg O Fin) m g w):MS P ty Wg Post Q M r .opn O g w:=by
 have n:∀g w,J w->(∀a,Rel ty Wg O w a->ZA3 P ty Wg O Fin g a)->MS P ty Wg Post Q M r .added O g w:=fun g w d h=>by refine rF (h w (.refl ..)).1 (fun _=>.ready) fun a r _=>?_;obtain⟨_,b,f,m,i⟩:=h a r;exact⟨b,_,_,f,.yH,rfl,jh c hF m b _ (c _ _ r d) i⟩
 have l:∀g w,J w->(∀a,Rel ty Wg O w a->ZA2 P ty Wg O Fin g a)->MS P ty Wg Post Q M r .uJ O g w:=fun g w d h=>by refine rF (h w (.refl ..)).1 (fun _=>.added) fun a r e=>?_;obtain⟨v,hv,j⟩:=e;obtain⟨b,f,m,i⟩:=(h a r).2 v hv j;exact⟨b,_,_,f,.add j hv,aq,jh c n m b _ (k _ _ ⟨_,_,j.setSt _⟩ (c _ _ r d)) i⟩
 refine jh c (fun g w d h=>?_) m g w d h;refine rF (h w (.refl ..)).1 (fun _=>.uJ) fun a r _=>?_;obtain⟨_,b,f,m,i⟩:=h a r;exact⟨b,_,_,f,.gP (.inl rfl),rfl,jh c l m b _ (c _ _ r d) i⟩
open Classical in
theorem G9{J:an->Prop}(i:∀w c,Rel ty Wg O w c->J w->J c)(B:∀w v,WgLive ty Wg (w.setCell (stA Wg) v)->J w->J (w.setCell (stA Wg) v))(C:∀w v,WgLive ty Wg (w.setCell (smA Wg) v)->J w->J (w.setCell (smA Wg) v)){Fin p:bw->an->Prop}(hF:∀g w,J w->(∀c,Rel ty Wg O w c->Fin g c)->MS P ty Wg Post Q M r .back O g w)
  (round:∀g w,p g w->∃m,Goes P true (Rel ty Wg O) (DZ Wg) (ZW1 P ty Wg O Fin p) m g w):∀(b:Nat) (g:bw) (w:an),J w->p g w->MS P ty Wg Post Q M r (.waiting b) O g w:=by
 have K:∀g w,J w->(∀c,Rel ty Wg O w c->ZAq P ty Wg O Fin g c)->MS P ty Wg Post Q M r .sY O g w:=fun g w j h=>by refine rF (h w (.refl ..)).1 (fun _=>.back) fun c r _=>?_;obtain⟨_,d,f,m,k⟩:=h c r;exact⟨d,_,_,f,.acq,rfl,jh i hF m d _ (i _ _ r j) k⟩
 have z:∀g w,J w->(∀c,Rel ty Wg O w c->ZEn P ty Wg O Fin g c)->MS P ty Wg Post Q M r .fin O g w:=fun g w j h=>by refine rF (h w (.refl ..)).1 (fun _=>.sY) fun c r _=>?_;obtain⟨_,d,f,m,k⟩:=h c r;exact⟨d,_,_,f,.Hy,rfl,jh i K m d _ (i _ _ r j) k⟩
 have I:∀g w,J w->(∀c,Rel ty Wg O w c->ZW4 P ty Wg O Fin g c)->MS P ty Wg Post Q M r .woken O g w:=fun g w j h=>by refine rF (h w (.refl ..)).1 (fun _=>.fin) fun c r e=>?_;obtain⟨d,f,m,k⟩:=(h c r).2 e;exact⟨d,_,_,f,.got e,rfl,jh i z m d _ (i _ _ r j) k⟩
 have H:∀g w,J w->(∀c,Rel ty Wg O w c->ZW3 P ty Wg O Fin g c)->MS P ty Wg Post Q M r .reg O g w:=fun g w j h=>by
  refine .sem (h w (.refl ..)).1 (h w (.refl ..)).2.1 (fun c r e=>(h c r).2.2.1 e) (fun c r e=>?_) fun c d r e D=>?_
  ·obtain⟨d,f,_⟩:=(h c r).2.2.2 e;exact⟨d,f⟩
  ·obtain⟨L,f,m,k⟩:=(h c r).2.2.2 e;rw[D]at f;cases f;exact jh i I m d _ (C _ _ ⟨_,_,e.setSm _⟩ (i _ _ r j)) k
 intro b;induction b using Nat.strongRecOn with
 |ind b E=>
  have G:∀v,v≠0->v<=b->∀g w,J w->(∀c,Rel ty Wg O w c->ZW2 P ty Wg O Fin p v g c)->MS P ty Wg Post Q M r (.seen v) O g w:=fun v h0 N g w j h=>by
   refine rF (h w (.refl ..)).1 (fun c=>if WgAt ty Wg c (v*KK) 0 then .reg else .waiting (v-1)) fun c r e=>?_;obtain⟨o,s,t,l⟩:=e;obtain⟨u,x⟩:=(h c r).2 o t l
   by_cases hv:o=v
   ·subst hv;obtain⟨d,f,m,k⟩:=u rfl;refine⟨d,_,_,f,?_,aq,?_⟩
    ·rw[aM l];exact .hit l h0
    ·rw[aM l];exact jh i H m d _ (B _ _ ⟨_,_,l.setSt _⟩ (i _ _ r j)) k
   ·have q:¬WgAt ty Wg c (v*KK) 0:=fun n=>hv (by
     have:=(l.unique n).1;simp only[KK]at this;omega)
    obtain⟨d,f,m,k⟩:=x hv;refine⟨d,_,_,f,?_,rfl,?_⟩
    ·rw[aD q];exact .Js l ak
    ·rw[aD q];exact jh i (fun g w j h=>E (v-1) ak g w j (h w (.refl ..))) m d _ (i _ _ r j) k
  have F:∀g w,J w->(∀c,Rel ty Wg O w c->ZW1 P ty Wg O Fin p g c)->MS P ty Wg Post Q M r (.waiting b) O g w:=fun g w j h=>by
   have A:∀{c:an} {v o:Nat},WgAt ty Wg c (v*KK) 0->WgAt ty Wg c (o*KK) 0->v=o:=fun a b=>by have:=(a.unique b).1;simp only[KK]at this;omega
   refine rF (h w (.refl ..)).1 (fun c=>if n:∃v:Nat,v≠0/\WgAt ty Wg c (v*KK) 0 then .seen n.choose else .fin) fun c r e=>?_;obtain⟨v,s,t,l⟩:=e;obtain⟨d,f,u,x⟩:=(h c r).2 v t l
   by_cases hv:v=0
   ·have q:¬∃v:Nat,v≠0/\WgAt ty Wg c (v*KK) 0:=fun⟨o,h0,f⟩=>h0 ((A f l).trans hv);obtain⟨m,k⟩:=u hv;refine⟨d,_,_,f,?_,rfl,?_⟩
    ·rw[hO q];exact .zero (by subst hv;simpa using l)
    ·rw[hO q];exact jh i z m d _ (i _ _ r j) k
   ·have n:∃v:Nat,v≠0/\WgAt ty Wg c (v*KK) 0:=⟨v,hv,l⟩;have y:n.choose=v:=A n.choose_spec.2 l;obtain⟨m,k⟩:=x hv;refine⟨d,_,_,f,?_,rfl,?_⟩
    ·rw[qW n,y];exact .saw l s hv
    ·rw[qW n,y];exact jh i (G v hv s) m d _ (i _ _ r j) k
  intro g w j n;obtain⟨m,hm⟩:=round g w n;exact jh i F m g w j hm
theorem H7{J:an->Prop}(d:∀w a,Rel ty Wg O w a->J w->J a)(k:∀w v,WgLive ty Wg (w.setCell (stA Wg) v)->J w->J (w.setCell (stA Wg) v))(l:∀w v,WgLive ty Wg (w.setCell (smA Wg) v)->J w->J (w.setCell (smA Wg) v)){Fin e:bw->an->Prop}{b:Nat}(n:2147483646<=b)(hF:∀g w,J w->(∀a,Rel ty Wg O w a->Fin g a)->MS P ty Wg Post Q M r .back O g w)
  (round:∀g w,e g w->∃m,Goes P true (Rel ty Wg O) (DZ Wg) (ZW1 P ty Wg O Fin e) m g w) {m:Nat} {g:bw} {w:an} (c:J w) (h:Goes P true (Rel ty Wg O) (DZ Wg) (ZDi P ty Wg O e) m g w):MS P ty Wg Post Q M r .opn O g w:=by
 refine jh d (fun g w c h=>?_) m g w c h;refine rF (h w (.refl ..)).1 (fun _=>.waiting b) fun a r _=>?_;obtain⟨_,f,i,m,j⟩:=h a r;exact⟨f,_,_,i,.gP (.inr ⟨b,rfl,n⟩),rfl,jh d (fun g w c h=>G9 d k l hF round b g w c (h w (.refl ..))) m f _ (d _ _ r c) j⟩
end
end
section
open Go.Conc
open Go.ConcN (ShN WgLive)
open Go.ConcR (KK WgAt stA smA rd wr mk)
section
variable [aA] [aW] {ty:aK} {Wg:Nat} {O O':Nat->Prop}
theorem NV{w w'}(h:sJ O w w')(d:∀b,O' b->¬O b)(e:∀b,O' b->b<w.heap.size)(c:¬O Wg)(f:Wg<w.heap.size):Rel ty Wg O' w w':=
 ⟨fun b a=>h.bU b (e b a) (d b a),h.size,fun⟨st,g,k⟩=>⟨st,g,(h.bU Wg f c).trans k⟩,h.os⟩
theorem eP.EG{w w' p q bJ}(h:eP ty Wg O w p w' bJ q)(c:sK ty Wg p w)(e:∀b,O' b->¬O b)(f:∀b,O' b->b<w.heap.size)(d:¬O Wg)(a:¬O' Wg)(g:Wg<w.heap.size):Rel ty Wg O' w w':=by
 cases h with
 |own h=>exact NV h e f d g
 |rel=>exact .refl ..
 |idle=>exact .refl ..
 |gP=>exact .refl ..
 |add h=>exact rO rfl a ⟨_,_,h.setSt _⟩
 |look=>exact .refl ..
 |zero=>exact rO rfl a ⟨_,_,WgAt.setSt (show WgAt ty Wg w 1 0 from c) _⟩
 |post=>exact rO rfl a ⟨_,_,WgAt.setSm (show WgAt ty Wg w 0 0 from c) _⟩
theorem eR.EG{w w' p q bJ}(h:eR ty Wg O w p w' bJ q)(d:∀b,O' b->¬O b)(e:∀b,O' b->b<w.heap.size)(c:¬O Wg)(a:¬O' Wg)(f:Wg<w.heap.size):Rel ty Wg O' w w':=by
 cases h with
 |own _ h=>exact NV h d e c f
 |add h=>exact rO rfl a ⟨_,_,h.setSt _⟩
 |hit h=>exact rO rfl a ⟨_,_,h.setSt _⟩
 |_=>exact .refl ..
theorem X0(a):(cI (rd a)).touch?=some ⟨.cell a,false,.atomic⟩:=rfl
theorem afb(a):(cI (wr a)).touch?=some ⟨.cell a,true,.atomic⟩:=rfl
structure jU(Wg:Nat)(a:sx):Prop where
 touch:∀x,a.touch?=some x->ShN Wg x.loc/\x.kind=.atomic
 low:∀B,Wg<B->a.low B
 rel:a≠.mark (.release (stA Wg))
theorem vf(Wg a)(b:a.block=Wg):jU Wg (.ofEvent (rd a)):=⟨fun x c=>by rw[X0]at c;cases c;exact⟨⟨a,rfl,b⟩,rfl⟩,fun B d=>by show a.block<B;rw[b];exact d,fun e=>(by cases e)⟩
theorem Ei(Wg a)(b:a.block=Wg):jU Wg (.ofEvent (wr a)):=⟨fun x c=>by rw[afb]at c;cases c;exact⟨⟨a,rfl,b⟩,rfl⟩,fun B d=>by show a.block<B;rw[b];exact d,fun e=>(by cases e)⟩
theorem Eg(Wg):jU Wg (.mark .disable):=⟨fun x a=>(by cases a),fun _ _=>trivial,fun e=>(by cases e)⟩
theorem Jm(Wg):jU Wg (.mark .enable):=⟨fun x a=>(by cases a),fun _ _=>trivial,fun e=>(by cases e)⟩
theorem C8(Wg):jU Wg (.mark (.releaseMerge (stA Wg))):=⟨fun x b=>(by cases b),fun B a=>a,fun e=>(by cases e)⟩
theorem C5(Wg):jU Wg (.mark (.acquire (stA Wg))):=⟨fun x b=>(by cases b),fun B a=>a,fun e=>(by cases e)⟩
theorem Jn(Wg):∀a∈(semEvents (smA Wg)).map cI,jU Wg a:=fun a b=>by
 simp only[semEvents,qQ,rZ,vQ,gK,mL,BY,or_false]at b;rcases b with rfl|rfl|rfl|rfl
 ·exact Eg Wg
 ·exact vf Wg (smA Wg) rfl
 ·exact Ei Wg (smA Wg) rfl
 ·exact Jm Wg
theorem Eh(Wg):∀a∈#[rd (stA Wg),wr (stA Wg)].map cI,jU Wg a:=fun a b=>by
 simp at b;rcases b with rfl|rfl
 ·exact vf Wg (stA Wg) rfl
 ·exact Ei Wg (stA Wg) rfl
theorem AU{Wg e}(h:jU Wg (.ofEvent e)):∀a∈#[e].map cI,jU Wg a:=fun a b=>by grind
theorem jU.bS{Wg a}(h:jU Wg a)(O k){x}(b:a.touch?=some x):GQ Wg O k x:=
 .inr (.inr ⟨(h.touch x b).1,by rw[(h.touch x b).2];simp,by rw[(h.touch x b).2];simp⟩)
theorem eP.lists{w w' p q c}(h:eP ty Wg O w p w' c q):(p=.work/\q=.work/\∀a∈c,gI Wg (eB O w w') w'.heap.size a)\/(q≠.work/\w'.heap.size=w.heap.size/\∀a∈c,jU Wg a):=by
 cases h with
 |own _ k=>exact .inl ⟨rfl,rfl,k⟩
 |rel=>exact .inr ⟨aq,rfl,fun a b=>by simp at b;rw[b];exact C8 Wg⟩
 |idle d=>exact .inr ⟨d,rfl,fun a b=>by simp at b⟩
 |gP=>exact .inr ⟨aq,rfl,fun a b=>by simp at b;rw[b];exact Eg Wg⟩
 |add _ _ _ e=>exact .inr ⟨by rcases e with⟨_,_,rfl⟩|⟨_,rfl⟩<;>simp,aq,Eh Wg⟩
 |look=>exact .inr ⟨aq,rfl,AU (vf Wg _ rfl)⟩
 |zero=>exact .inr ⟨aq,aq,AU (Ei Wg _ rfl)⟩
 |post=>exact .inr ⟨aq,aq,Jn Wg⟩
theorem eP.tc{w w' p q bJ}(h:eP ty Wg O w p w' bJ q){Ow t ops k}(j:Ow k=O)(f:TC Wg Ow w.heap.size t)(n:ops.map (·.act)=bJ)(m:∀op∈ops,op.g=k):
  TC Wg (kB Ow k (eB O w w')) w'.heap.size (t++ops):=by
 have d:∀op∈ops,op.act∈bJ:=fun op c=>by rw[<-n];exact mK.2 ⟨op,c,rfl⟩
 have i:w.heap.size<=w'.heap.size:=by
  rcases h.lists with _|⟨_,e,_⟩
  ·cases h with
   |own h=>exact h.size
   |idle o=>exact aV _
   |_=>simp
  ·omega
 refine f.app i (fun b hb=>?_) (fun b hb=>?_) fun op c=>⟨m op c,fun x l=>?_,?_⟩
 ·rcases hb with hb|hb
  ·exact .inl (j▸hb)
  ·exact .inr hb.1
 ·rcases hb with hb|hb
  ·exact cV (f.lt k b (j▸hb)) i
  ·exact hb.2
 ·rcases h.lists with⟨_,_,a⟩|⟨_,_,a⟩
  ·exact(a _ (d op c)).bS k l
  ·exact(a _ (d op c)).bS _ k l
 ·rcases h.lists with⟨_,_,a⟩|⟨_,_,a⟩
  ·exact(a _ (d op c)).low
  ·exact(a _ (d op c)).low _ (cV f.pO i)
end
section
variable [aA] [aW] {ty:aK} {Wg:Nat} {O:Nat->Prop}
structure yx(Wg:Nat)(a:sx):Prop where
 touch:∀x,a.touch?=some x->ShN Wg x.loc/\x.kind≠.plain
 low:∀B,Wg<B->a.low B
 rel:a≠.mark (.release (stA Wg))
theorem jU.Ef{a}(h:jU Wg a):yx Wg a:=⟨fun x b=>⟨(h.touch x b).1,by rw[(h.touch x b).2];simp⟩,h.low,h.rel⟩
theorem C7{w w' es}(h:DZ Wg w w' es):∀a∈es.map cI,yx Wg a:=fun a d=>by
 obtain⟨e,f,rfl⟩:=mK.1 d;rcases h.2 e f with rfl|rfl
 ·exact⟨fun x c=>(by cases c;exact⟨⟨smA Wg,rfl,rfl⟩,aq⟩),fun B b=>b,fun e=>(by cases e)⟩
 ·exact⟨fun x c=>(by cases c;exact⟨⟨smA Wg,rfl,rfl⟩,aq⟩),fun B b=>b,fun e=>(by cases e)⟩
theorem eR.lists{w w' p q c}(h:eR ty Wg O w p w' c q):(∀a∈c,gI Wg (eB O w w') w'.heap.size a)\/(w'.heap.size=w.heap.size/\∀a∈c,yx Wg a):=by
 have one:∀{e:Event},jU Wg (.ofEvent e)->∀a∈#[e].map cI,yx Wg a:=fun h a b=>(AU h a b).Ef;cases h with
 |own _ _ k=>exact .inl k
 |idle h=>exact .inr ⟨rfl,C7 h⟩
 |gP=>exact .inr ⟨rfl,one (Eg Wg)⟩
 |add=>exact .inr ⟨aq,fun a b=>(Eh Wg a b).Ef⟩
 |yH=>exact .inr ⟨rfl,one (Jm Wg)⟩
 |zero=>exact .inr ⟨rfl,one (vf Wg _ rfl)⟩
 |saw=>exact .inr ⟨rfl,one (vf Wg _ rfl)⟩
 |hit=>exact .inr ⟨aq,fun a b=>(Eh Wg a b).Ef⟩
 |Js=>exact .inr ⟨rfl,one (vf Wg _ rfl)⟩
 |got=>exact .inr ⟨rfl,one (vf Wg _ rfl)⟩
 |Hy=>exact .inr ⟨rfl,one (Jm Wg)⟩
 |acq=>exact .inr ⟨rfl,one (C5 Wg)⟩
theorem eR.size{w w' p q bJ}(h:eR ty Wg O w p w' bJ q):w.heap.size<=w'.heap.size:=by
 cases h with
 |own _ h=>exact h.size
 |add=>simp
 |hit=>simp
 |_=>exact aV _
theorem Ta{w w' f}(l:(∀a∈f,gI Wg (eB O w w') w'.heap.size a)\/(w'.heap.size=w.heap.size/\∀a∈f,yx Wg a))(i:w.heap.size<=w'.heap.size){Ow t ops}(k:Ow 0=O)(h:TC Wg Ow w.heap.size t)(n:ops.map (·.act)=f)(m:∀op∈ops,op.g=0):
  TC Wg (kB Ow 0 (eB O w w')) w'.heap.size (t++ops):=by
 have e:∀op∈ops,op.act∈f:=fun op d=>by grind
 refine h.app i (fun b hb=>?_) (fun b hb=>?_) fun op d=>⟨m op d,fun x j=>?_,?_⟩
 ·rcases hb with hb|hb
  ·exact .inl (k▸hb)
  ·exact .inr hb.1
 ·rcases hb with hb|hb
  ·exact cV (h.lt 0 b (k▸hb)) i
  ·exact hb.2
 ·rcases l with c|⟨_,c⟩
  ·exact(c _ (e op d)).bS 0 j
  ·exact .inr (.inr ⟨((c _ (e op d)).touch x j).1,((c _ (e op d)).touch x j).2,fun _=>rfl⟩)
 ·rcases l with c|⟨_,c⟩
  ·exact(c _ (e op d)).low
  ·exact(c _ (e op d)).low _ (cV h.pO i)
theorem eR.tc{w w' p q bJ}(h:eR ty Wg O w p w' bJ q){Ow t ops}(a:Ow 0=O)(b:TC Wg Ow w.heap.size t)(d:ops.map (·.act)=bJ)(c:∀op∈ops,op.g=0):
  TC Wg (kB Ow 0 (eB O w w')) w'.heap.size (t++ops):=Ta h.lists h.size a b d c
theorem eR.kt{Shun old w w' p q bJ}(h:eR ty Wg O w p w' bJ q){t ops}(d:KT Shun Wg old t)(f:ops.map (·.act)=bJ)(e:∀op∈ops,op.g=0):KT Shun Wg old (t++ops):=by
 have c:∀op∈ops,op.act∈bJ:=fun op a=>by grind
 refine d.app (fun op a=>.inl (e op a)) fun op a=>?_;rcases h.lists with b|⟨_,b⟩
 ·exact(b _ (c op a)).rel _
 ·exact(b _ (c op a)).rel
theorem eP.kt{Shun old k w w' p q bJ}(h:eP ty Wg O w p w' bJ q){t ops}(d:KT Shun Wg old t)(f:ops.map (·.act)=bJ)(e:∀op∈ops,op.g=k)(a:old<=k):KT Shun Wg old (t++ops):=by
 have c:∀op∈ops,op.act∈bJ:=fun op b=>by grind
 refine d.app (fun op b=>.inr (.inl (by grind))) fun op b=>?_;rcases h.lists with⟨_,_,a⟩|⟨_,_,a⟩
 ·exact(a _ (c op b)).rel _
 ·exact(a _ (c op b)).rel
end
end
section
open Go.Conc
open Go.ConcN (ShN WgLive sumTo)
open Go.ConcR (KK WgAt stA smA rd wr mk)
def Ph.counted:Ph->Nat
 |.work|.said|.deaf=>1
 |_=>0
def Ph.jZ:Ph->Nat
 |.work|.said=>0
 |_=>1
def Ph.early:Ph->Prop
 |.work|.said|.deaf|.quit=>True
 |_=>False
def Ph.last:Ph->Prop
 |.nV|.rC|.lq=>True
 |_=>False
def Mp.pend:Mp->Nat
 |.added|.ready=>1
 |_=>0
def Mp.jZ:Mp->Nat
 |.opn|.ready|.sY|.back=>0
 |_=>1
def Mp.open_:Mp->Prop
 |.opn|.uJ|.added|.ready|.waiting _|.seen _=>True
 |_=>False
def Mp.over:Mp->Prop
 |.woken|.fin|.sY|.back=>True
 |_=>False
inductive Mode(m:Nat)(f:Nat->Ph):Mp->Int->Int->Prop
 |opn {p:Mp} (a:p.open_) (h:∀i,i<m->(f i).early) (j:∀b,p=.waiting b->sumTo m (fun i=>(f i).counted)<=b) (e:∀b,p=.seen b->sumTo m (fun i=>(f i).counted)<=b/\b≠0):
   Mode m f p (((sumTo m (fun i=>(f i).counted)+p.pend:Nat):Int) *KK) 0
 |reg (h:∀i,i<m->(f i).early) (c:1<=sumTo m (fun i=>(f i).counted)):Mode m f .reg (((sumTo m (fun i=>(f i).counted):Nat):Int) *KK+1) 0
 |last {L:Nat} (d:L<m) (h:(f L).last) (k:∀i,i<m->i≠L->f i=.quit) {st:Int} (g:(f L=.lq/\st=0)\/(f L≠.lq/\st=1)):Mode m f .reg st 0
 |sema (h:∀i,i<m->f i=.quit):Mode m f .reg 0 1
 |over {p:Mp} (a:p.over) (h:∀i,i<m->f i=.quit):Mode m f p 0 0
structure Works[aA](P:aN)(b:aK)(a:Nat)(Q:(Nat->Prop)->an->Prop)(t:eW)(k:Nat)(w:an)(s:mu):Prop where
 rel:Rel b a s.O s.w w
 ws:s.p≠.quit->WS P b a Q s.p s.O s.g s.w/\Deaf t k=s.p.jZ
 qu:s.p=.quit->QuitsD P s.n (Deaf t k) s.g/\∀c,Rel b a s.O s.w c->Q s.O c
 rl:s.p≠.work->∃r,iq a t k r
def Av(b:Mp)(a:bw)(bl:Bool)(gs:Array bw):Prop:=
 (bl=false/\gs[0]? =some a)\/(bl=true/\b=.reg/\a.offers=none/\gs[0]? =some {a with status:=.blocked})
def Acq(a old m:Nat)(t:eW):Prop:=∃s,t.act? s=some (.mark (.acquire (stA a)))/\t.g? s=some 0/\t.heard s/\∀i,i<m->∃k,iq a t (old+i) k/\k<s
structure uD where
 X:Nat->Prop
 O:Nat->Prop
 W:an
structure uq(d:aK)(c:Nat)(s:uD)(a:Nat->Nat->Prop)(w:an):Prop where
 no:∀j b,a j b->¬s.X b
 old:∀j b,a j b->s.O b\/s.W.heap.size<=b
 lt:∀b,s.X b->b<s.W.heap.size
 rel:Rel d c s.X s.W w
 wg:¬s.X c
structure Inv[aA](P:aN)(h:aK)(c:Nat)(Shun:Loc->Prop)(Q:Nat->(Nat->Prop)->an->Prop)(M old:Nat)(l:uD)(e:Mp)(a:bw)(bl:Bool)(w0:an)(m:Nat)(f:Nat->mu)(d:Nat->Nat->Prop)(q:Nat->Nat)(gs:Array bw)(w:an)(t:eW):Prop where
 many:0<old
 size:gs.size=old+m
 room:M<2147483647/\m<=M
 tc:TC c d w.heap.size t
 kt:KT Shun c old t
 mode:∃st k,WgAt h c w st k/\Mode m (fun i=>(f i).p) e st k/\(bl=true->k≠1)
 main:Av e a bl gs
 tG:Rel h c (d 0) w0 w
 deaf0:Deaf t 0=e.jZ
 gh:∀i g,0<i->i<old->gs[i]? =some g->QuitsD P (q i) (Deaf t i) g
 own:∀i,i<m->(f i).O=d (old+i)/\gs[old+i]? =some (f i).g
 work:∀i,i<m->Works P h c (Q i) t (old+i) w (f i)
 acq:e=.back->Acq c old m t
 above:∀j,old+m<=j->Deaf t j=0/\(∀b,¬d j b)/\∀i,t.g? i≠some j
 bare:∀j,0<j->j<old->∀b,¬d j b
 all:uq h c l d w
end
section
open Go.Conc
open Go.ConcN (ShN WgLive)
open Go.ConcR (KK WgAt stA smA rd wr mk)
section
variable [aA] [aW] {ty:aK} {Wg:Nat} {O:Nat->Prop} {t ops:eW} {k:Nat}
def mY(d:Nat)(a:sx):Nat:=match a with
 |.mark .disable=>d+1
 |.mark .enable=>d-1
 |_=>d
theorem Dv(f:∀op∈ops,op.g=k):Deaf (t++ops) k=(ops.map (·.act)).toList.foldl mY (Deaf t k):=by
 have h:=Deaf_append t k ops.toList;simp only[Array.toArray_toList]at h;rw[h,BD]
 have key:∀(l:List MemOp) (d:Nat),(∀op∈l,op.g=k)->l.foldl (Gz k) d=(l.map (·.act)).foldl mY d:=by
  intro l;induction l with
  |nil=>intro d _;rfl
  |cons y l j=>
   intro d b
   have i:Gz k d y=mY d y.act:=by
    have c:=b y aq;obtain⟨g,n,pos,e⟩:=y;simp only at c;subst c;cases e with
    |mark m=>cases m<;>simp[Gz,mY]
    |_=>simp[Gz,mY]
   rw[rX,rZ,rX,i];exact j _ fun op a=>b op (by simp[a])
 exact key _ _ fun op a=>f op (by simpa using a)
theorem XH{a}(h:a≠.mark .disable/\a≠.mark .enable)(d):mY d a=d:=by
 cases a with
 |mark m=>cases m<;>first|rfl|exact absurd rfl h.1|exact absurd rfl h.2
 |_=>rfl
theorem DI:∀(l:List sx) (d:Nat),(∀a∈l,a≠.mark .disable/\a≠.mark .enable)->l.foldl mY d=d
 |[],_,_=>rfl
 |a::l,d,h=>by rw[rX,XH (h a aq),DI l d fun b c=>h b (by simp[c])]
theorem eP.jZ{w w' p q bJ}(h:eP ty Wg O w p w' bJ q)(d:ops.map (·.act)=bJ)(c:∀op∈ops,op.g=k)(b:Deaf t k=p.jZ):Deaf (t++ops) k=q.jZ:=by
 rw[Dv c,d,b];cases h with
 |own _ h=>exact DI _ _ fun a f=>(h a (by grind)).marks
 |add _ _ _ e=>rcases e with⟨_,_,rfl⟩|⟨_,rfl⟩<;>simp[mY,cI,rd,wr,Ph.jZ]
 |idle=>simp
 |_=>simp[mY,cI,rd,wr,semEvents,Ph.jZ]
theorem eR.jZ{w w' p q bJ}(h:eR ty Wg O w p w' bJ q)(j:ops.map (·.act)=bJ)(i:∀op∈ops,op.g=0)(d:Deaf t 0=p.jZ):Deaf (t++ops) 0=q.jZ:=by
 rw[Dv i,j,d];cases h with
 |own _ _ h=>exact DI _ _ fun a c=>(h a (by simpa using c)).marks
 |idle h=>
  refine DI _ _ fun a c=>?_;obtain⟨e,f,rfl⟩:=mK.1 (by simpa using c);rcases h.2 e f with rfl|rfl<;>exact⟨by simp[cI],by simp[cI]⟩
 |gP l=>rcases l with rfl|⟨b,rfl,_⟩<;>simp[mY,cI,mk,Mp.jZ]
 |_=>simp[mY,cI,rd,wr,mk,Mp.jZ]
theorem pq{j}(a:∀op∈ops,op.g=k)(b:j≠k):Deaf (t++ops) j=Deaf t j:=Deaf_other t (g':=k) (cW b) ops a
end
end
section
open Go.Conc
open Go.ConcN (ShN WgLive RelBy)
open Go.ConcR (KK WgAt stA smA rd wr mk)
section
variable [aA] [aW] {ty:aK} {Wg:Nat} {O:Nat->Prop} {t ops:eW} {k:Nat}
theorem iq.other{j s}(h:iq Wg t k s)(b:∀op∈ops,op.g=j)(c:j≠k):iq Wg (t++ops) k s:=
 h.app (fun i f d=>by
  rcases wJ d with⟨l,_⟩|⟨_,op,a,_,e⟩
  ·omega
  ·exact absurd ((b op a).symm.trans e) c) fun op a e=>absurd ((b op a).symm.trans e) c
theorem Xn(b:∀op∈ops,op.g=k){i}(a:i<=ops.size):(t++ops).deaf k (t.size+i)=((ops.map (·.act)).toList.take i).foldl mY (Deaf t k):=by
 have e:t++ops=(t++ops.extract 0 i)++ops.extract i ops.size:=by rw[Array.append_assoc,Array.extract_append_extract];simp[oI,Nat.max_eq_right a]
 have d:(t++ops.extract 0 i).size=t.size+i:=by simp[oI a]
 rw[e,deaf_old ak];have:(t++ops.extract 0 i).deaf k (t.size+i)=Deaf (t++ops.extract 0 i) k:=by unfold Deaf;rw[d]
 rw[this,Dv fun op c=>b op (by obtain⟨j,f,rfl⟩:=vI.1 c;simp)]
 congr 1
 simp[Array.toList_extract,List.extract]
theorem OQ:∀(l:List sx) (d:Nat),(∀a∈l,a≠.mark .enable)->d<=l.foldl mY d
 |[],_,_=>aV _
 |a::l,d,h=>by
  rw[rX];refine cS ?_ (OQ l _ fun b c=>h b (by simp[c]));cases a with
  |mark m=>cases m<;>first|exact aV _|exact ju _|exact absurd rfl (h _ aq)
  |_=>exact aV _
theorem iq.own{s}(h:iq Wg t k s)(p:∀op∈ops,op.g=k)(n:∀op∈ops,jU Wg op.act)(hd:1<=Deaf t k\/∀op∈ops,op.act.touch?=none)(v:∀i x,(ops[i]?).bind (·.act.touch?)=some x->∀a∈(ops.map (·.act)).toList.take i,a≠.mark .enable):iq Wg (t++ops) k s:=by
 refine h.app (fun i w m o=>?_) fun op c _ x f=>(n op c).touch x f;obtain⟨x,f,hm,hk⟩:=o;rcases wJ m with⟨y,_⟩|⟨_,op,c,b,e⟩
 ·omega
 have d:op.act.touch?=some x:=by
  have:touchAt (t++ops) i=some x:=f
  rwa [Cv b]at this
 rcases hd with hd|hd
 ·rcases hk with hk|hk
  ·exact hk ((n op c).touch x d).2
  ·obtain⟨g,l,q⟩:=hk;rw[m]at l;obtain rfl:=dm l;obtain⟨j,rfl⟩:∃j,i=t.size+j:=⟨i-t.size,ak⟩
   have r:j<ops.size:=by have:=vY b;simp at this;omega
   rw[Xn p (mg r)]at q
   have u:ops[j]? =some op:=by rw[gx ak]at b;simpa using b
   have:=OQ _ (Deaf t k) (v j x (by rw[u];exact d));omega
 ·rw[hd op c]at d;cases d
theorem eP.Z2{w w' p q f}(h:eP ty Wg O w p w' f q)(j:ops.map (·.act)=f)(y:∀op∈ops,op.g=k)(c:Deaf t k=p.jZ)(hr:p≠.work->∃s,iq Wg t k s)(F:q≠.work):∃s,iq Wg (t++ops) k s:=by
 have r:∀op∈ops,op.act∈f:=fun op d=>by rw[<-j];exact mK.2 ⟨op,d,rfl⟩
 have calm:(∀a∈f,a≠.mark .enable)->∀i x,(ops[i]?).bind (·.act.touch?)=some x->∀a∈(ops.map (·.act)).toList.take i,a≠.mark .enable:=fun B i x _ a b=>B a (by rw[<-j];exact tQ.1 (oF b))
 have e:p≠.work->(∀a∈f,jU Wg a)->(1<=Deaf t k\/∀op∈ops,op.act.touch?=none)->(∀i x,(ops[i]?).bind (·.act.touch?)=some x->∀a∈(ops.map (·.act)).toList.take i,a≠.mark .enable)->∃s,iq Wg (t++ops) k s:=fun u D c E=>by obtain⟨s,G⟩:=hr u;exact⟨s,G.own y (fun op d=>D _ (r op d)) c E⟩
 cases h with
 |own=>exact absurd rfl F
 |rel=>
  have H:ops.size=1:=by have:=dG Array.size j;simpa using this
  obtain⟨op,rfl⟩:∃op,ops=#[op]:=by
   obtain⟨l⟩:=ops
   match l,H with
   |[op],_=>exact⟨op,rfl⟩
  have b:op.act=.mark (.releaseMerge (stA Wg)):=by simpa using j
  have A:=y op aq;have I:(t++#[op])[t.size]? =some op:=aq;refine⟨t.size,⟨by simp[yd,b],by simp[uj,A],⟨k,by simp[uj,A],?_⟩,fun i C o=>?_⟩,fun i C o=>?_⟩
  ·rw[deaf_old (aV _)];exact c
  ·exfalso;obtain⟨z,v,_⟩:=ep.1 o;have:=vY v;simp at this;omega
  ·exfalso;obtain⟨z,v,_⟩:=ep.1 o;have:=vY v;simp at this;omega
 |idle u=>exact e u (fun a b=>by simp at b) (.inr fun op d=>by have:=r op d;simp at this) (calm fun a b=>by simp at b)
 |gP=>exact e aq (fun a b=>by simp at b;rw[b];exact Eg Wg) (.inr fun op d=>by have:=r op d;simp at this;rw[this];rfl) (calm fun a b=>by simp at b;rw[b];simp)
 |add=>exact e aq (Eh Wg) (.inl (by rw[c];exact aV _)) (calm fun a b=>by simp at b;rcases b with rfl|rfl<;>simp[cI,rd,wr])
 |look=>exact e aq (AU (vf Wg _ rfl)) (.inl (by rw[c];exact aV _)) (calm fun a b=>by simp at b;rw[b];simp[cI,rd])
 |zero=>exact e aq (AU (Ei Wg _ rfl)) (.inl (by rw[c];exact aV _)) (calm fun a b=>by simp at b;rw[b];simp[cI,wr])
 |post=>
  refine e aq (Jn Wg) (.inl (by rw[c];exact aV _)) fun i x K a b=>?_;have m:((ops.map (·.act))[i]?).bind (·.touch?)=some x:=by rw[fj];cases J:ops[i]? <;>simp_all
  rw[j]at m b;simp only[semEvents,qQ,rZ,vQ,cI]at m b
  match i with
  |0=>simp at b
  |1=>simp at b;rw[b];simp
  |2=>simp at b;rcases b with rfl|rfl<;>simp
  |3=>simp[MemAct.touch?]at m
  |n+4=>simp at m
end
end
section
open Go.Conc
open Go.ConcN (ShN WgLive sumTo upd sumTo_upd upd_ne upd_same le_sumTo sumTo_le)
open Go.ConcR (KK WgAt stA smA rd wr mk)
section
variable [aA] [aW] {ty:aK} {Wg:Nat} {O:Nat->Prop} {m:Nat} {f:Nat->Ph} {mp:Mp} {st sm:Int} {w:an}
theorem Hs(m:Nat)(f:Nat->Ph):sumTo m (fun i=>(f i).counted)<=m:=by
 have:=sumTo_le (f:=fun i=>(f i).counted) (c:=1) (j:=m) fun i _=>by cases f i<;>simp[Ph.counted]
 omega
theorem Mode.yH(h:Mode m f mp st sm)(d:WgAt ty Wg w st sm){i}(b:i<m)(hm:m<2147483647):sK ty Wg (f i) w:=by
 have v:=Hs m f;have g:(f i).counted<=sumTo m (fun i=>(f i).counted):=le_sumTo (f:=fun i=>(f i).counted) b
 have n:∀{p:Ph},p.early->p≠.deaf->sK ty Wg p w:=fun{p} a r=>by
  cases p with
  |deaf=>exact absurd rfl r
  |nV=>exact a.elim
  |rC=>exact a.elim
  |lq=>exact a.elim
  |_=>trivial
 cases h with
 |opn x a o t=>
  by_cases c:f i=.deaf
  ·rw[c]at g⊢
   replace g:1<=sumTo m (fun i=>(f i).counted):=g
   have y:mp.pend<=1:=by cases mp<;>simp[Mp.pend]
   refine⟨sumTo m (fun i=>(f i).counted)+mp.pend-1,0,ak,ak,?_⟩;have e:(((sumTo m (fun i=>(f i).counted)+mp.pend-1:Nat):Int)+1) *KK+((0:Nat):Int)=((sumTo m (fun i=>(f i).counted)+mp.pend:Nat):Int) *KK:=by simp only[KK];omega
   rw[e];exact d
  ·exact n (a i b) c
 |reg a o=>
  by_cases c:f i=.deaf
  ·rw[c];refine⟨sumTo m (fun i=>(f i).counted)-1,1,ak,ak,?_⟩;have e:(((sumTo m (fun i=>(f i).counted)-1:Nat):Int)+1) *KK+((1:Nat):Int)=((sumTo m (fun i=>(f i).counted):Nat):Int) *KK+1:=by simp only[KK];omega
   rw[e];exact d
  ·exact n (a i b) c
 |@last L u l q _ s=>
  by_cases k:i=L
  ·subst k;rcases s with⟨e,rfl⟩|⟨e,rfl⟩
   ·rw[e];exact d
   ·generalize f i=p at l e;cases p with
    |nV=>exact d
    |rC=>exact d
    |lq=>exact absurd rfl e
    |_=>exact l.elim
  ·rw[q i b k];trivial
 |sema j=>rw[j i b];trivial
 |over _ j=>rw[j i b];trivial
theorem Mode.worker(h:Mode m f mp st sm)(o:WgAt ty Wg w st sm){i}(c:i<m){w' bJ q}(Y:¬O Wg)(IZ:Wg<w.heap.size)(V:eP ty Wg O w (f i) w' bJ q)(hm:m<2147483647):
  ∃A z,WgAt ty Wg w' A z/\Mode m (upd f i q) mp A z:=by
 have U:=h.yH o c hm;have ah:=sumTo_upd f q Ph.counted c
 have same:WgAt ty Wg w' st sm->q.counted=(f i).counted->((f i).early↔q.early)->((f i).last->q.last/\(f i=.lq↔q=.lq))->(f i≠.quit)->∃A z,WgAt ty Wg w' A z/\Mode m (upd f i q) mp A z:=fun aj J Z aa M=>by
  have x:sumTo m (fun a=>(upd f i q a).counted)=sumTo m (fun a=>(f a).counted):=ak
  have early:(∀j,j<m->(f j).early)->∀j,j<m->(upd f i q j).early:=fun h j d=>by
   by_cases r:j=i
   ·subst r;rw[gV];exact Z.1 (h j d)
   ·rw[iZ f q r];exact h j d
  refine⟨st,sm,aj,?_⟩;cases h with
  |opn D k u H=>rw[<-x];exact .opn D (early k) (by rw[x];exact u) (by rw[x];exact H)
  |reg k u=>rw[<-x];exact .reg (early k) (by rw[x];exact u)
  |@last L S g t _ P=>
   by_cases s:i=L
   ·subst s;obtain⟨y,W⟩:=aa g;refine .last (L:=i) c (by rw[gV];exact y) (fun j d n=>by rw[iZ f q n];exact t j d n) ?_;rw[gV];rcases P with⟨e,rfl⟩|⟨e,rfl⟩
    ·exact .inl ⟨W.1 e,rfl⟩
    ·exact .inr ⟨fun h=>e (W.2 h),rfl⟩
   ·exact absurd (t i c s) M
  |sema l=>exact absurd (l i c) M
  |over _ l=>exact absurd (l i c) M
 have Q:(f i).last->(∀j,j<m->j≠i->f j=.quit)/\mp=.reg/\sm=0:=fun g=>by
  have no:∀{p:Ph},p.last->p.early->False:=fun{p} a b=>by cases p<;>first|exact a.elim|exact b.elim
  cases h with
  |opn _ k=>exact(no g (k i c)).elim
  |reg k=>exact(no g (k i c)).elim
  |@last L S av t _ P=>
   by_cases s:i=L
   ·subst s;exact⟨t,rfl,rfl⟩
   ·rw[t i c s]at g;exact g.elim
  |sema l=>rw[l i c]at g;exact g.elim
  |over _ l=>rw[l i c]at g;exact g.elim
 generalize C:f i=p at V U same Q ah;cases V with
 |own K=>exact same ((K.bU Wg IZ Y).trans o) rfl nD (fun a=>a.elim) aq
 |rel=>exact same o rfl nD (fun a=>a.elim) aq
 |idle D l=>exact same o rfl nD (fun a=>⟨a,nD⟩) l
 |gP=>exact same o rfl nD (fun a=>a.elim) aq
 |look=>exact same o rfl nD (fun _=>⟨trivial,aq⟩) aq
 |zero=>
  obtain⟨y,rfl,rfl⟩:=Q trivial;exact⟨0,0,o.setSt 0,.last (L:=i) c (by rw[gV];trivial) (fun j d n=>by rw[iZ f _ n];exact y j d n) (.inl ⟨gV f i _,rfl⟩)⟩
 |post=>
  obtain⟨y,rfl,rfl⟩:=Q trivial;have e:st=0:=(o.unique (show WgAt ty Wg w 0 0 from U)).1;subst e
  exact⟨0,1,o.setSm 1,.sema fun j d=>by
   by_cases r:j=i
   ·subst r;exact gV f j _
   ·rw[iZ f _ r];exact y j d r⟩
 |@add v wt T az hv q l=>
  have e:=o.unique T;refine⟨_,_,T.setSt _,?_⟩
  have early:q.early->(∀j,j<m->(f j).early)->∀j,j<m->(upd f i q j).early:=fun af h j d=>by
   by_cases r:j=i
   ·subst r;rw[gV];exact af
   ·rw[iZ f q r];exact h j d
  cases h with
  |opn D k u H=>
   have F:=e.1;simp only[KK]at F;have ev:v+1=sumTo m (fun i=>(f i).counted)+mp.pend/\wt=0:=ak;rcases l with⟨_,b,_⟩|⟨_,rfl⟩
   ·omega
   have J:Ph.quit.counted=0:=rfl;have K:Ph.deaf.counted=1:=rfl;have E:sumTo m (fun a=>(upd f i .quit a).counted)+mp.pend=v:=ak;have G:((v:Int) *KK+(wt:Int))=((sumTo m (fun a=>(upd f i .quit a).counted)+mp.pend:Nat):Int) *KK:=by rw[E,ev.2];simp
   rw[G];refine .opn D (early trivial k) (fun b I=>?_) fun b I=>?_
   ·have:=u b I;omega
   ·have:=H b I;exact⟨ak,this.2⟩
  |reg k u=>
   have F:=e.1;simp only[KK]at F;have ev:v+1=sumTo m (fun i=>(f i).counted)/\wt=1:=ak;have K:Ph.deaf.counted=1:=rfl;rcases l with⟨a,b,rfl⟩|⟨a,rfl⟩
   ·subst a b;have J:Ph.nV.counted=0:=rfl;have E:sumTo m (fun a=>(upd f i .nV a).counted)=0:=ak
    have all:∀j,j<m->j≠i->f j=.quit:=fun j d n=>by
     have X:=le_sumTo (f:=fun a=>(upd f i .nV a).counted) d;simp only[iZ f _ n]at X;have B:=k j d;have R:(f j).counted=0:=ak;generalize f j=p at B R;cases p with
     |quit=>rfl
     |nV=>exact B.elim
     |rC=>exact B.elim
     |lq=>exact B.elim
     |_=>cases R
    exact .last (L:=i) c (by rw[gV];trivial) (fun j d n=>by rw[iZ f _ n];exact all j d n) (.inr ⟨by rw[gV];simp,aq⟩)
   ·have J:Ph.quit.counted=0:=rfl;have E:sumTo m (fun a=>(upd f i .quit a).counted)=v:=ak;have ay:v≠0:=fun h0=>a ⟨h0,ev.2⟩;have G:((v:Int) *KK+(wt:Int))=((sumTo m (fun a=>(upd f i .quit a).counted):Nat):Int) *KK+1:=by rw[E,ev.2];simp
    rw[G];exact .reg (early trivial k) ak
  |@last L S g t _ P=>
   by_cases s:i=L
   ·subst s;rw[C]at g;exact g.elim
   ·have:=t i c s;rw[C]at this;cases this
  |sema N=>have:=N i c;rw[C]at this;cases this
  |over _ N=>have:=N i c;rw[C]at this;cases this
end
section
variable [aA] [aW] {ty:aK} {Wg:Nat} {O:Nat->Prop} {m:Nat} {f:Nat->Ph} {mp:Mp} {st sm:Int} {w:an}
theorem VH(e:∀i,i<m->(f i).early)(h:sumTo m (fun i=>(f i).counted)=0):∀j,j<m->f j=.quit:=fun j d=>by
 have g:=le_sumTo (f:=fun a=>(f a).counted) d;have b:=e j d;have c:(f j).counted=0:=ak;generalize f j=p at b c;cases p with
 |quit=>rfl
 |nV=>exact b.elim
 |rC=>exact b.elim
 |lq=>exact b.elim
 |_=>cases c
theorem Mode.open_(h:Mode m f mp st sm)(a:mp.open_):(∀i,i<m->(f i).early)/\st=((sumTo m (fun i=>(f i).counted)+mp.pend:Nat):Int) *KK/\sm=0/\(∀b,mp=.waiting b->sumTo m (fun i=>(f i).counted)<=b)/\(∀b,mp=.seen b->sumTo m (fun i=>(f i).counted)<=b/\b≠0):=by
 cases h with
 |opn _ c d e=>exact⟨c,rfl,rfl,d,e⟩
 |reg=>exact a.elim
 |last=>exact a.elim
 |sema=>exact a.elim
 |over h=>cases mp<;>first|exact a.elim|exact h.elim
theorem Mode.wW(h:Mode m f mp st sm)(a:mp.over):(∀i,i<m->f i=.quit)/\st=0/\sm=0:=by
 cases h with
 |opn h=>cases mp<;>first|exact a.elim|exact h.elim
 |reg=>exact a.elim
 |last=>exact a.elim
 |sema=>exact a.elim
 |over _ h=>exact⟨h,rfl,rfl⟩
theorem Mode.XQ(h:Mode m f mp st sm)(a:WgAt ty Wg w st sm)(hm:m<2147483647):An ty Wg mp w:=by
 have d:=Hs m f;cases mp with
 |uJ=>
  obtain⟨_,rfl,rfl,_⟩:=h.open_ trivial;exact⟨_,by simp only[Mp.pend];omega,a⟩
 |waiting b=>
  obtain⟨_,rfl,rfl,c,_⟩:=h.open_ trivial;exact⟨_,by have:=c b rfl;simp only[Mp.pend];omega,by simp only[Mp.pend];omega,a⟩
 |seen b=>
  obtain⟨_,rfl,rfl,_,c⟩:=h.open_ trivial;exact⟨_,by have:=(c b rfl).1;simp only[Mp.pend];omega,by simp only[Mp.pend];omega,a⟩
 |woken=>
  obtain⟨_,rfl,rfl⟩:=h.wW trivial;exact a
 |_=>trivial
theorem Mode.main(h:Mode m f mp st sm)(d:WgAt ty Wg w st sm){w' bJ q}(u:¬O Wg)(A:Wg<w.heap.size)(y:eR ty Wg O w mp w' bJ q)(hm:m<2147483647):
  ∃o n,WgAt ty Wg w' o n/\Mode m f q o n:=by
 have B:=Hs m f;have k:∀{a b:Nat},((a:Int) *KK)=(b:Int) *KK->a=b:=fun{a b} e=>by simp only[KK]at e;omega
 cases y with
 |own _ x=>exact⟨st,sm,(x.bU Wg A u).trans d,h⟩
 |idle=>exact⟨st,sm,d,h⟩
 |gP z=>
  obtain⟨c,rfl,rfl,_⟩:=h.open_ trivial;refine⟨_,_,d,?_⟩;rcases z with rfl|⟨b,rfl,l⟩
  ·exact .opn (p:=.uJ) trivial c (fun b e=>by cases e) fun b e=>by cases e
  ·exact .opn (p:=.waiting b) trivial c (fun r e=>by cases e;omega) fun b e=>by cases e
 |@add v g hv=>
  obtain⟨c,rfl,rfl,_⟩:=h.open_ trivial;refine⟨_,_,d.setSt _,?_⟩;have e:=k (d.unique g).1;have t:((v:Int)+1) *KK=((sumTo m (fun i=>(f i).counted)+Mp.added.pend:Nat):Int) *KK:=by simp only[Mp.pend]at e⊢;rw[<-e];simp
  rw[t];exact .opn (p:=.added) trivial c (fun b e=>by cases e) fun b e=>by cases e
 |yH=>
  obtain⟨c,rfl,rfl,_⟩:=h.open_ trivial;exact⟨_,_,d,.opn (p:=.ready) trivial c (fun b e=>by cases e) fun b e=>by cases e⟩
 |@zero b g=>
  obtain⟨c,rfl,rfl,_⟩:=h.open_ trivial;have e:=(d.unique g).1;have s:sumTo m (fun i=>(f i).counted)=0:=by simp only[Mp.pend,KK]at e;omega
  exact⟨0,0,g,.over (p:=.fin) trivial (VH c s)⟩
 |@saw b v g l h0=>
  obtain⟨c,rfl,rfl,_⟩:=h.open_ trivial;have e:=k (d.unique g).1;exact⟨_,_,d,.opn (p:=.seen v) trivial c (fun b e=>by cases e) fun r j=>by cases j;simp only[Mp.pend]at e;exact⟨ak,h0⟩⟩
 |@hit v g h0=>
  obtain⟨c,rfl,rfl,_⟩:=h.open_ trivial;have e:=k (d.unique g).1;simp only[Mp.pend,Nat.add_zero]at e;refine⟨_,_,g.setSt _,?_⟩;rw[<-e];exact .reg c ak
 |@Js v C g l=>
  obtain⟨c,rfl,rfl,_⟩:=h.open_ trivial;have e:=k (d.unique g).1;exact⟨_,_,d,.opn (p:=.waiting (v-1)) trivial c (fun b j=>by cases j;simp only[Mp.pend]at e;omega) fun b j=>by cases j⟩
 |got=>
  obtain⟨c,rfl,rfl⟩:=h.wW trivial;exact⟨_,_,d,.over (p:=.fin) trivial c⟩
 |Hy=>
  obtain⟨c,rfl,rfl⟩:=h.wW trivial;exact⟨_,_,d,.over (p:=.sY) trivial c⟩
 |acq=>
  obtain⟨c,rfl,rfl⟩:=h.wW trivial;exact⟨_,_,d,.over (p:=.back) trivial c⟩
end
end
section
abbrev rB(P:aN)(l k:List FuncId)(d:Nat)(t:Nat->Option Obj):aA:=YD l (fun c=>dY P l true c=true) (fun f=>l.contains f=true\/k.contains f=true) d t P
def knF(P:aN)(f:FuncId):Bool:=match P.funcs[f]? with
 |some a=>a.body.isSome&&(P.inits.idxOf? f).isNone
 |none=>false
def okF(P:aN)(l:List FuncId)(f:FuncId):Bool:=match P.funcs[f]? with
 |some a=>(match a.body with|some c=>dY P l false c|none=>false)&&!(a.name== "runtime.NumGoroutine")&&(P.inits.idxOf? f).isNone
 |none=>false
theorem JG{P l f}(h:okF P l f=true):∃a c,P.funcs[f]? =some a/\a.body=some c/\dY P l false c=true/\(a.name== "runtime.NumGoroutine")=false/\P.inits.idxOf? f=none:=by
 unfold okF at h;split at h
 ·rename_i a i;simp only[cm,xD,xW]at h;obtain⟨⟨b,d⟩,e⟩:=h;split at b
  ·rename_i c g;exact⟨a,c,i,g,b,d,e⟩
  ·cases b
 ·cases h
theorem y9{P f}(h:knF P f=true):(∃a c,P.funcs[f]? =some a/\a.body=some c)/\P.inits.idxOf? f=none:=by
 unfold knF at h;split at h
 ·rename_i a e;simp only[cm,xW,Gr]at h;obtain⟨⟨c,d⟩,b⟩:=h;exact⟨⟨a,c,e,d⟩,b⟩
 ·cases h
theorem Yr{P l k d t}(n:Lo P=true)(m:l.all (okF P l)=true)(j:k.all (knF P)=true):@Fit (rB P l k d t) P l:=by
 letI:aA:=rB P l k d t
 have ok:∀f,l.contains f=true->okF P l f=true:=fun f hf=>nE.1 m f (by simpa using hf);have o:∀f,k.contains f=true->knF P f=true:=fun f hf=>nE.1 j f (by simpa using hf)
 have all:∀f,aA.known f->(∃a c,P.funcs[f]? =some a/\a.body=some c)/\P.inits.idxOf? f=none:=fun f hf=>by
  rcases hf with hf|hf
  ·obtain⟨a,c,b,e,_,_,i⟩:=JG (ok f hf);exact⟨⟨a,c,b,e⟩,i⟩
  ·exact y9 (o f hf)
 refine⟨afx n,fun f hf=>?_,fun f=>nD,fun c=>nD,fun f hf=>?_,fun f hf=>(all f hf).2,fun f hf=>(all f hf).1,fun f hf=>.inl hf,rfl⟩
 ·obtain⟨a,c,b,e,_,h,_⟩:=JG (ok f hf);exact⟨a,b,h,by rw[e];rfl⟩
 ·obtain⟨a,c,b,e,g,_,_⟩:=JG (ok f hf);exact⟨a,c,b,e,g⟩
end
section
open Go.Proofs.Tryz
abbrev link:Go.Conc.Lib.WgLink:={add:=97,done:=99,wait:=101,relMerge:=138,disable:=139,enable:=140,inBubble:=141,associate:=142,fatal:=143,uOr:=144,uAdd:=145,raceRead:=146,uLoad:=147,uStore:=148,disassociate:=149,semrelease:=150,acquire:=154,isAssociated:=155,uCas:=156,raceWrite:=157,semacquire:=158,orU64:=184,addU64:=185,loadU64:=186,storeU64:=187,casU64:=194,tWgP:=196,tUP:=198,tAssoc:=199,tWg:=178,tAU:=175,tU64:=173,tUint:=203,tU32:=176,tPU32:=204,tPAU:=244,tPU64:=246,tNoCopy:=170,tANoCopy:=171,tAlign64:=172}
theorem xq:Go.Conc.Lib.WgLib prog link:=
 ⟨func97,func99,func101,func138,func139,func140,func141,func142,func143,func144,func145,func146,func147,func148,func149,func150,func154,func155,func156,func157,func158,func184,func185,func186,func187,func194,underlying196,runUnderlying196,sizeOf196,isAgg196,zeroValue196,underlying198,runUnderlying198,sizeOf198,isAgg198,zeroValue198,underlying199,runUnderlying199,sizeOf199,isAgg199,zeroValue199,underlying178,runUnderlying178,sizeOf178,isAgg178,zeroValue178,underlying175,runUnderlying175,sizeOf175,isAgg175,zeroValue175,underlying173,runUnderlying173,sizeOf173,isAgg173,zeroValue173,underlying203,runUnderlying203,sizeOf203,isAgg203,zeroValue203,underlying176,runUnderlying176,sizeOf176,isAgg176,zeroValue176,underlying204,runUnderlying204,sizeOf204,isAgg204,zeroValue204,underlying244,runUnderlying244,sizeOf244,isAgg244,zeroValue244,underlying246,runUnderlying246,sizeOf246,isAgg246,zeroValue246,underlying0,runUnderlying0,sizeOf0,isAgg0,zeroValue0,underlying3,runUnderlying3,sizeOf3,isAgg3,zeroValue3,underlying4,runUnderlying4,sizeOf4,isAgg4,zeroValue4,underlying9,runUnderlying9,sizeOf9,isAgg9,zeroValue9,underlying20,runUnderlying20,sizeOf20,isAgg20,zeroValue20,underlying21,runUnderlying21,sizeOf21,isAgg21,zeroValue21,aI,aI⟩
end
section
open Go.Conc
open Go.ConcN (sumTo upd sumTo_upd upd_ne upd_same le_sumTo sumTo_le sumTo_upd_out)
open Go.ConcR (KK WgAt stA smA)
section
variable [aA] [aW] {ty:aK} {Wg:Nat} {m:Nat} {f:Nat->Ph} {st sm:Int} {w:an}
theorem Mode.spawn(h:Mode m f .ready st sm):Mode (m+1) (upd f m .work) .opn st sm:=by
 obtain⟨d,rfl,rfl,_⟩:=h.open_ trivial
 have e:sumTo (m+1) (fun i=>(upd f m .work i).counted)=sumTo m (fun i=>(f i).counted)+1:=by have:=sumTo_upd_out f Ph.work Ph.counted (aV m);simp only[sumTo,gV,this];rfl
 have c:((sumTo m (fun i=>(f i).counted)+Mp.ready.pend:Nat):Int) *KK=((sumTo (m+1) (fun i=>(upd f m .work i).counted)+Mp.opn.pend:Nat):Int) *KK:=by rw[e];rfl
 rw[c];refine .opn (p:=.opn) trivial (fun i g=>?_) (fun b e=>by cases e) fun b e=>by cases e
 by_cases a:i=m
 ·subst a;rw[gV];trivial
 ·rw[iZ f _ a];exact d i ak
theorem Mode.Kr(h:Mode m f .reg st sm):sm=0\/(st=0/\sm=1/\∀i,i<m->f i=.quit):=by
 cases h with
 |opn h=>exact h.elim
 |reg=>exact .inl rfl
 |last=>exact .inl rfl
 |sema h=>exact .inr ⟨rfl,rfl,h⟩
 |over h=>exact h.elim
theorem Mode.abA(h:Mode m f .reg st 0):∃i,i<m/\f i≠.quit:=by
 cases h with
 |opn h=>exact h.elim
 |reg k l=>
  refine oy fun g=>?_
  have all:∀i,i<m->(f i).counted<=0:=fun i d=>by have:f i=.quit:=oy fun j=>g ⟨i,d,j⟩;rw[this];exact aV _
  have:=sumTo_le (f:=fun i=>(f i).counted) (c:=0) all;omega
 |@last L b a=>exact⟨L,b,fun e=>by rw[e]at a;exact a⟩
 |over h=>exact h.elim
theorem Mode.take(h:Mode m f .reg st 1)(d:WgAt ty Wg w st 1):∃b a,WgAt ty Wg (w.setCell (smA Wg) (.int .u32 0)) b a/\Mode m f .woken b a:=by
 rcases h.Kr with e|⟨rfl,_,c⟩
 ·cases e
 ·exact⟨0,0,d.setSm 0,.over (p:=.woken) trivial c⟩
end
end
section
open Go.Conc
open Go.ConcN (ShN WgLive sumTo upd sumTo_upd upd_ne upd_same)
open Go.ConcR (KK WgAt stA smA rd wr mk)
section
variable [aA] [aW] {P:aN} {ty:aK} {Wg:Nat} {Shun:Loc->Prop} {Q:Nat->(Nat->Prop)->an->Prop} {M old:Nat} {O0:uD} {mp:Mp} {a:bw} {bl:Bool} {w0:an} {m:Nat} {f:Nat->mu} {Ow:Nat->Nat->Prop} {q:Nat->Nat} {gs:Array bw} {w:an} {t:eW} {sl:Option (Nat×Nat)}
structure gC(w w':an):Prop where
 os:w'.os=w.os
 output:w'.output=w.output
 tape:w'.tape=w.tape
 size:w.heap.size<=w'.heap.size
theorem gC.refl(w):gC w w:=⟨rfl,rfl,rfl,aV _⟩
theorem gC.trans{w1 w2 w3}(h:gC w1 w2)(k:gC w2 w3):gC w1 w3:=⟨k.os.trans h.os,k.output.trans h.output,k.tape.trans h.tape,cS h.size k.size⟩
theorem gC.at (w d):gC w (w.at d):=⟨rfl,rfl,rfl,aV _⟩
theorem gC.set(w ad v):gC w (w.setCell ad v):=⟨by simp[fD],by simp[fD],by simp[fD],aq⟩
theorem sJ.same{O w w'}(h:sJ O w w'):gC w w':=⟨h.os,h.output,h.tape,h.size⟩
theorem eP.same{O w w' p p' bJ}(h:eP ty Wg O w p w' bJ p'):gC w w':=by
 cases h with
 |own h=>exact h.same
 |add=>exact .set ..
 |zero=>exact .set ..
 |post=>exact .set ..
 |_=>exact .refl _
theorem eR.same{O w w' p p' bJ}(h:eR ty Wg O w p w' bJ p'):gC w w':=by
 cases h with
 |own _ h=>exact h.same
 |add=>exact .set ..
 |hit=>exact .set ..
 |_=>exact .refl _
theorem EX(Ow:Nat->Nat->Prop)(k O):kB Ow k O k=O:=by
 funext b
 apply propext;constructor
 ·rintro(⟨_,h⟩|⟨h,_⟩)
  ·exact h
  ·exact absurd rfl h
 ·exact fun h=>.inl ⟨rfl,h⟩
theorem mI(Ow:Nat->Nat->Prop){k j}(c:j≠k)(O):kB Ow k O j=Ow j:=by
 funext b
 apply propext;constructor
 ·rintro(⟨h,_⟩|⟨_,h⟩)
  ·exact absurd h c
  ·exact h
 ·exact fun h=>.inr ⟨c,h⟩
theorem Ni{w'}(h:uq ty Wg O0 Ow w)(hr:Rel ty Wg O0.X w w'){k O}(e:∀b,O b->Ow k b\/w.heap.size<=b):uq ty Wg O0 (kB Ow k O) w':=by
 have g:=h.rel.size;refine⟨fun j b c d=>?_,fun j b c=>?_,h.lt,h.rel.trans hr,h.wg⟩
 rotate_left
 ·rcases c with⟨_,c⟩|⟨_,c⟩
  ·rcases e b c with h1|h1
   ·exact h.old k b h1
   ·exact .inr ak
  ·exact h.old j b c
 rcases c with⟨_,c⟩|⟨_,c⟩
 ·rcases e b c with h1|h1
  ·exact h.no k b h1 d
  ·have:=h.lt b d;have:=h.rel.size;omega
 ·exact h.no j b c d
theorem uq.at (h:uq ty Wg O0 Ow w)(d):uq ty Wg O0 Ow (w.at d):=⟨h.no,h.old,h.lt,h.rel.trans (.at ..),h.wg⟩
theorem uq.small(h:uq ty Wg O0 Ow w):∀b,O0.X b->b<w.heap.size:=fun b c=>cV (h.lt b c) h.rel.size
theorem Te{i g g1 w1 bJ}(s:gs[i]? =some g)(v:∀(j:Nat) h,gs[j]? =some h->h.status=.blocked->h.offers=none)(h:ir P (i==0) g w g1 w1 bJ):
  ∃F c,runT P (crowd gs w sl) i=(.next (crowd ((gs.map F).setIfInBounds i g1) w1 sl),c)/\(F=woken P g g1 w1\/(F=id/\∀k l d,stepG P (i==0) g w≠.go k l d))/\c.map (·.act)=bJ/\∀op∈c,op.g=i:=by
 obtain⟨F,c,n,o,p,r⟩:=Td (sl:=sl) s v h;cases h with
 |go h=>
  refine⟨_,_,runT_crowd_go s h,.inl rfl,?_,MemOp.ofEvents_g _ _ _ _⟩;rw[ofEvents_eq];simp[BA,BJ]
 |shut h u=>exact⟨F,c,n,o.imp id fun e=>⟨e,fun k l d b=>by rw[h]at b;cases b⟩,p,r⟩
 |qp h u=>exact⟨F,c,n,o.imp id fun e=>⟨e,fun k l d b=>by rw[h]at b;cases b⟩,p,r⟩
 |qw h=>exact⟨F,c,n,o.imp id fun e=>⟨e,fun k l d b=>by rw[h]at b;cases b⟩,p,r⟩
theorem oq{F g g1 x w1}{X:Prop}(hF:F=woken P g g1 w1\/(F=id/\X))(b:x.status=.running\/x.status=.finished):F x=x:=by
 rcases hF with rfl|⟨rfl,_⟩
 ·unfold woken;split
  ·exact again_running _ b
  ·rfl
 ·rfl
theorem Wa{a}(b:a.status=.running):({({a with status:=.blocked}:bw)with status:=.running}:bw)=a:=by
 cases a
 simp_all
theorem Lg(h:Av mp a bl gs)(l:a.status=.running){F g g1 w1}{X:Prop}(hF:F=woken P g g1 w1\/(F=id/\X)){k}(n:k≠0):
  ∃j,Av mp a j ((gs.map F).setIfInBounds k g1)/\(j=true->bl=true/\¬(F=woken P g g1 w1/\Cr P g=true/\(g1.status=.running\/g1.status=.finished))):=by
 have c:((gs.map F).setIfInBounds k g1)[0]? =(gs[0]?).map F:=by rw[dx n,fj]
 rcases h with⟨rfl,h0⟩|⟨rfl,hm,d,h0⟩
 ·refine⟨false,.inl ⟨rfl,?_⟩,fun e=>by cases e⟩;rw[c,h0];simp[oq hF (.inl l)]
 ·rcases hF with rfl|⟨rfl,_⟩
  ·by_cases b:(Cr P g&&g1.status !=.blocked&&g1.status !=.waiting)=true
   ·refine⟨false,.inl ⟨rfl,?_⟩,fun e=>by cases e⟩;rw[c,h0];simp only[qV,woken,aM b];refine dG some ?_
    have:({a with status:=.blocked}:bw).again w1={({a with status:=.blocked}:bw)with status:=.running}:=by unfold Um;simp[d]
    rw[this];exact Wa l
   ·refine⟨true,.inr ⟨rfl,hm,d,?_⟩,fun _=>⟨rfl,fun⟨_,i,h2⟩=>b ?_⟩⟩
    ·rw[c,h0];simp only[qV,woken,aD b]
    ·rcases h2 with h2|h2<;>simp[i,h2]
  ·refine⟨true,.inr ⟨rfl,hm,d,by rw[c,h0];rfl⟩,fun _=>⟨rfl,fun⟨i,h2,h3⟩=>?_⟩⟩;have:=congrFun i ({a with status:=.blocked}:bw);have b:(Cr P g&&g1.status !=.blocked&&g1.status !=.waiting)=true:=by rcases h3 with h3|h3<;>simp[h2,h3]
   simp only[id,woken,aM b]at this;unfold Um at this;simp only[d]at this;have:=dG Goroutine.status this;simp at this
theorem WS.running{Q p O g w}(h:WS P ty Wg Q p O g w)(c:p≠.quit):g.status=.running:=by
 cases h with
 |quit=>exact absurd rfl c
 |step _ b=>exact b
theorem Works.status{Q k s}(h:Works P ty Wg Q t k w s):s.g.status=.running\/s.g.status=.finished:=by
 by_cases b:s.p=.quit
 ·exact(h.qu b).1.status
 ·exact .inl ((h.ws b).1.running b)
theorem Works.other{Q k j s w' ops}(h:Works P ty Wg Q t k w s)(e:∀op∈ops,op.g=j)(d:j≠k)(hr:Rel ty Wg s.O w w'):Works P ty Wg Q (t++ops) k w' s:=by have c:Deaf (t++ops) k=Deaf t k:=pq e (cW d);refine⟨h.rel.trans hr,fun b=>⟨(h.ws b).1,c▸(h.ws b).2⟩,fun b=>⟨c▸(h.qu b).1,(h.qu b).2⟩,fun b=>?_⟩;obtain⟨r,hr⟩:=h.rl b;exact⟨r,hr.other e d⟩
theorem Inv.status(h:Inv P ty Wg Shun Q M old O0 mp a bl w0 m f Ow q gs w t){j}(d:0<j){g}(b:gs[j]? =some g):g.status=.running\/g.status=.finished:=by
 by_cases e:j<old
 ·exact(h.gh j g d e b).status
 ·obtain⟨i,rfl⟩:∃i,j=old+i:=⟨j-old,ak⟩
  have c:i<m:=by have:=(aP.1 b).1;have:=h.size;omega
  have:=(h.own i c).2;rw[b]at this;obtain rfl:=dm this;exact(h.work i c).status
theorem Inv.QX(h:Inv P ty Wg Shun Q M old O0 mp a bl w0 m f Ow q gs w t)(d:a.status=.running):∀(j:Nat) x,gs[j]? =some x->x.status=.blocked->x.offers=none:=by
 intro j x b c;rcases me j with rfl|hj
 ·rcases h.main with⟨_,h0⟩|⟨_,_,g,h0⟩
  ·rw[h0]at b;obtain rfl:=dm b;rw[d]at c;cases c
  ·rw[h0]at b;obtain rfl:=dm b;exact g
 ·rcases h.status hj b with e|e<;>rw[e]at c<;>cases c
theorem Inv.Nq(h:Inv P ty Wg Shun Q M old O0 mp a bl w0 m f Ow q gs w t)(c:a.status=.running):∀g∈gs,Go.Conc.awake g:=by
 intro g d;obtain⟨i,j,rfl⟩:=vI.1 d;have b:=cw j;rcases me i with rfl|hj
 ·rcases h.main with⟨_,h0⟩|⟨_,_,k,h0⟩
  ·rw[h0]at b;rw[<-dm b];exact awake_of (.inl c)
  ·rw[h0]at b;rw[<-dm b];exact awake_of (.inr (.inl rfl))
 ·exact awake_of ((h.status hj b).elim .inl fun e=>.inr (.inr e))
theorem Inv.at (h:Inv P ty Wg Shun Q M old O0 mp a bl w0 m f Ow q gs w t)(d):Inv P ty Wg Shun Q M old O0 mp a bl w0 m f Ow q gs (w.at d) t:=
 ⟨h.many,h.size,h.room,h.tc,h.kt,h.mode,h.main,h.tG.trans (.at ..),h.deaf0,h.gh,h.own,fun i b=>⟨(h.work i b).rel.trans (.at ..),(h.work i b).ws,(h.work i b).qu,(h.work i b).rl⟩,h.acq,h.above,h.bare,h.all.at d⟩
theorem yK{ops k j}(l:∀op∈ops,op.g=k)(e:j≠k)(h:∀i,t.g? i≠some j):∀i,(t++ops).g? i≠some j:=fun i d=>by
 rcases wJ d with⟨_,b⟩|⟨_,op,n,_,c⟩
 ·exact h i b
 ·exact e (c.symm.trans (l op n))
theorem eP.sem{O w w' p p' bJ}(h:eP ty Wg O w p w' bJ p'){st sm st' sm'}(b:WgAt ty Wg w st sm)(c:WgAt ty Wg w' st' sm')(d:¬O Wg)(e:Wg<w.heap.size):sm'=sm\/(p=.lq/\p'=.quit):=by
 cases h with
 |own h=>exact .inl (c.unique ((h.bU Wg e d).trans b)).2
 |add=>exact .inl (c.unique (b.setSt _)).2
 |zero=>exact .inl (c.unique (b.setSt _)).2
 |post=>exact .inr ⟨rfl,rfl⟩
 |_=>exact .inl (c.unique b).2
theorem Tq(f i)(s:mu):(fun j=>(upd f i s j).p)=upd (fun j=>(f j).p) i s.p:=by
 funext j
 by_cases h:j=i
 ·subst h;rw[gV,gV]
 ·rw[iZ _ _ h,iZ _ _ h]
theorem Inv.worker(h:Inv P ty Wg Shun Q M old O0 mp a bl w0 m f Ow q gs w t)(ha:a.status=.running){i}(C:i<m)(A:(f i).p≠.quit):
  ∃I s' MV av d U,runT P (crowd gs w sl) (old+i)=(.next (crowd av d sl),U)/\Inv P ty Wg Shun Q M old O0 mp a I w0 m (upd f i s') MV q av d (t++U)/\qm P ty Wg s' (f i)/\gC w d/\(I=true->bl=true)/\MV 0=Ow 0:=by
 obtain⟨st,sm,aq,aa,wO⟩:=h.mode;have L:=h.work i C;obtain⟨v,S⟩:=h.own i C;obtain⟨Ja,R⟩:=L.ws A;have hm:m<2147483647:=by have:=h.room;omega
 have u:sK ty Wg (f i).p w:=aa.yH aq C hm;have E:old+i≠0:=by have:=h.many;omega
 have aB:(old+i==0)=false:=by simp;have:=h.many;omega
 have hrel:=L.rel;have ah:=L.rl;generalize hs:f i=s at A L v S Ja R u hrel ah;obtain⟨p,O,g,wz,n⟩:=s;simp only at A v S Ja R u hrel ah;cases Ja with
 |quit=>exact absurd rfl A
 |step _ hg V aS aT hk=>
  obtain⟨B,d,W,ht,k⟩:=aS w hrel u;have T:=hk w B d W hrel u ht
  obtain⟨H,af⟩:∃H,V w=.quit->QuitsD P H 1 B/\∀aG,Rel ty Wg (eB O w d) d aG->Q i (eB O w d) aG:=by
   by_cases r:V w=.quit
   ·rw[r]at T;generalize aQ:Ph.quit=p2 at T;cases T with
    |@quit _ _ _ H J X=>exact⟨H,fun _=>⟨J,X⟩⟩
    |step G=>exact absurd aQ.symm G
   ·exact⟨0,fun e=>absurd e r⟩
  obtain⟨F,U,hr,hF,N,o⟩:=Te (sl:=sl) S (h.QX ha) (aB▸ht);obtain⟨I,IP,PG⟩:=Lg h.main ha hF E;have K:¬O Wg:=v▸h.tc.wg (old+i)
  have PV:∀j,j≠old+i->Rel ty Wg (Ow j) w d:=fun j c=>
   k.EG u (fun b l Z=>c (h.tc.one _ _ b l (v▸Z))) (fun b l=>h.tc.lt _ b l) K (h.tc.wg j) h.tc.pO
  have aL:old+i<gs.size:=(aP.1 S).1
  have bU:∀(j:Nat) x,0<j->j≠old+i->((gs.map F).setIfInBounds (old+i) B)[j]? =some x->gs[j]? =some x:=fun j x c G z=>by rw[dx (cW G),fj]at z;obtain⟨y,hy,rfl⟩:=ep.1 z;rw[oq hF (h.status c hy)];exact hy
  have Yd:∀(j:Nat) x,0<j->j≠old+i->gs[j]? =some x->((gs.map F).setIfInBounds (old+i) B)[j]? =some x:=fun j x c G z=>by rw[dx (cW G),fj,z];simp[oq hF (h.status c z)]
  have bk:=h.many;refine⟨I,⟨V w,eB O w d,B,d,H⟩,kB Ow (old+i) (eB O w d),_,d,U,hr,⟨h.many,by simp[h.size],h.room,k.tc v.symm h.tc N o,k.kt h.kt N o ak,?_,IP,?_,?_,fun j x c IM z=>?_,fun j c=>?_,fun j c=>?_,fun l=>?_,fun j c=>⟨?_,?_,?_⟩,fun j c IM=>?_,Ni h.all (k.EG u (fun b l Z=>h.all.no (old+i) b (v▸Z) l) h.all.small K h.all.wg h.tc.pO) fun b l=>l.elim (fun h=>.inl (v▸h)) fun h=>.inr h.1⟩,?_,k.same,fun e=>(PG e).1,mI Ow (cW E) _⟩
  ·have aR:(f i).p=p:=by rw[hs]
   have aO:eP ty Wg O w (f i).p d W (V w):=by rw[aR];exact k
   obtain⟨aY,aX,J,X⟩:=aa.worker aq C K h.tc.pO aO hm;refine⟨aY,aX,J,by rw[Tq];exact X,fun e he=>?_⟩;obtain⟨fu,pF⟩:=PG e;rcases k.sem aq J K h.tc.pO with Y|⟨Y,h4⟩
   ·exact wO fu (Y▸he)
   ·obtain⟨k1,g2,w2,es,k2⟩:=aT w hrel u Y h4;rcases hF with hF|⟨_,hF⟩
    ·exact pF ⟨hF,k1,(af h4).1.status⟩
    ·rw[aB]at hF;exact hF _ _ _ k2
  ·rw[mI Ow (cW E)];exact h.tG.trans (PV 0 (cW E))
  ·rw[pq o (cW E)];exact h.deaf0
  ·rw[pq o ak];exact h.gh j x c IM (bU j x c ak z)
  ·by_cases D:j=i
   ·subst D;rw[gV,EX];exact⟨rfl,by simp[aL]⟩
   ·rw[iZ f _ D,mI Ow ak];exact⟨(h.own j c).1,Yd _ _ ak ak (h.own j c).2⟩
  ·by_cases D:j=i
   ·subst D;rw[gV];have hd:=k.jZ N o R;refine⟨.refl ..,fun _=>⟨T,hd⟩,fun r=>⟨?_,(af r).2⟩,fun r=>k.Z2 N o R ah r⟩;simp only at r⊢;rw[hd,r];exact(af r).1
   ·rw[iZ f _ D];exact(h.work j c).other o ak ((h.own j c).1▸PV (old+j) ak)
  ·subst l;have:=(aa.wW trivial).1 i C;simp only[hs]at this;exact absurd this A
  ·rw[pq o ak];exact(h.above j c).1
  ·rw[mI Ow ak];exact(h.above j c).2.1
  ·exact yK o ak (h.above j c).2.2
  ·rw[mI Ow ak];exact h.bare j c IM
  ·exact .inl ⟨A,w,W,hrel,u,ht,k,rfl⟩
end
end
end Go.Proofs.YtpobhljcainmdaaGreat
