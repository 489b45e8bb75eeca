/- Parts of the proof. -/
import Derived.Test.YtpobhljcainmdaaGreatJ01
set_option maxRecDepth 100000
set_option maxHeartbeats 8000000
set_option linter.all false
namespace Go.Proofs.YtpobhljcainmdaaGreat
open Go.Sem renaming runT->cX,run_bind'->gH,bind->cA,store->sF,getObj->zZ,shape->Gs,setObj->Mr,runT_fst->iW
open Go renaming TypeId->aK,Program->aN,Value->au,Operand->mh,World->an,FuncId->bh,runtimePanic->pY,eqGuard->vX,TypeInfo->iX,variablesAt->GI,Question->mN,callMethod->Gx,binOp->eG,mayBeOne->Cq,Result->yc,stringish->GG,Event->kM,TypeDesc->jy,noView->Ag,newObj->Af,IntKind->qK,Addr->eV,cellsIn->qv
open Go.Extern.BytealgMakeNoZero renaming makeNoZero->xF,digits->Uh
open Go.World renaming shape?->gq,freeze->yf
open Go.Op renaming equal->ef,maxDepth->sD,equalIn->xV,eqGuardIn->Mf,unary->oc
open _root_.Bind renaming bind->jm
open _root_.Pure renaming pure->jw
open Go.Extern.AbiNoEscape renaming same->FU
open Go.Builtin renaming zeroCells->lU,unsafeSliceData_->BG,delete_->Lv,close_->Lu,clear_->tT,cap_->Lt,min_->FK
open Go.Instr renaming sliceAt->tW,findNow->BK,sameBits->Ga,keyThatStays->LV,sliceBounds->zO,findAsking->LR,mapUpdate->LX,panicnil->LY,makeChan->LW,sameNow->LZ,findKey->LS,lookup->BL,makeMap->Up
open Go.Extern renaming allNextRows->FV,findNext->FY,allGenericRows->Uj,find->FW,allTypedRows->Uk
open Go.Value renaming pointer->Ab
open _root_.List renaming length_eraseIdx->UG
open Go.Obj renaming isChan->Gm
open Go.Deferred renaming ofValue->vM
open Go.Conv renaming seenAt->rT
open Go.Made renaming depth->Me,reckon->so
section
section
variable [aA]
section
variable {P:aN} {ρ:Ren} {K:Kn}
theorem Fo{α c:Type}{Q}(m:String):SR P Q ρ K (pY (α:=α) (.plain m)) (pY (α:=c) (.plain m)):=by refine SR.then fB fun d L a b _ _ h=>?_;rw[h.1,h.2];exact xg (.iface _ (Le _))
theorem ade:SR P dj ρ K LY LY:=by
 unfold LY;refine .env fun r=>?_;refine SR.then (pM r) fun c L a b _ _ h=>?_;obtain⟨rfl,rfl⟩:=h;cases b
 case strings=>exact SR.then fB fun c L a b _ _ h=>by(rw[h.1,h.2];exact .pure rfl)
 all_goals exact .lost aq
theorem adb{α e:Type}{Q}:SR P Q ρ K (pY (α:=α) .panicNil) (pY (α:=e) .panicNil):=by refine SR.then fB fun l L a b _ _ h=>?_;rw[h.1,h.2];refine SR.then (SA _) fun f M t d _ _ c=>?_;obtain rfl:d=t:=c;refine SR.then (KH _ (.agg rfl (fun i v j hv=>by simp at hv))) fun f M r g _ _ hr=>?_;exact xg (.iface _ (.ptr hr))
theorem ada{x x'}(h:VR ρ x x'):SR P VR ρ K (Instr.panic x) (Instr.panic x'):=by
 unfold Instr.panic;cases h with
 |iface t h=>exact xg (.iface t h)
 |nilIface=>
  refine SR.then ade fun c L n b _ _ a=>?_;obtain rfl:b=n:=a;split
  ·exact xg .nilIface
  ·exact adb
 |_=>exact .lost aq
theorem abW{x x'}(h:VR ρ x x')(ts t):SR P VR ρ K (Lu ts t #[x]) (Lu ts t #[x']):=by
 unfold Lu;cases h with
 |mW=>exact Fo _
 |@chan r j hr=>
  refine .getObj hr (fun o e a=>?_) ⟨_,rfl,aq⟩;have d:(K.and r) r:=.inr rfl;refine SR.then (.pure a) fun p M o e b c a=>?_;cases a with
  |chan f g s l m=>
   dsimp only;split
   ·exact SR.then (Q:=fun _ _ _=>False) (Fo _) fun _ _ _ _ _ _ h=>h.elim
   ·exact .setObj (b _ _ hr) (c _ d) (.chan _ _ _ _ _) (.pure (.tuple rfl (fun i v n hv=>by simp at hv)))
  |_=>exact .lost aq
 |_=>exact .lost aq
def Flat:jy->Prop
 |.interface _=>False
 |.struct _=>False
 |.array _ _=>False
 |_=>True
theorem Fi(c){s s'}(h:SR P dj ρ K s s'):SR P dj ρ K (if c=true then pure ()else s) (if c=true then pure ()else s'):=by
 cases c
 ·exact h
 ·exact .pure rfl
theorem zh(op:BinOp){t:aK}{d:jy}(n:P.underlying t=some d)(m:Flat d)(x y){a a' b c}(l:VR ρ a a')(j:VR ρ b c):SR P dj ρ K (vX op t x y a b) (vX op t x y a' c):=by
 have g:∀(f:Ren) (L:Kn) (a a' b c:au),SR P (fun _ x y=>x=false/\y=false) f L (Mf sD t a b) (Mf sD t a' c):=by intro f L a a' b c;unfold sD;rw[show(10000:Nat)=9999+1 from rfl];unfold Mf;refine SR.then (aT n) fun _ _ x s _ _ o=>?_;obtain⟨rfl,rfl⟩:=o;cases s<;>first|exact m.elim|exact .pure ⟨rfl,rfl⟩
 unfold vX;refine Fi _ ?_
 ·cases l with
  |nilIface=>
   cases j with
   |nilIface=>
    dsimp only;refine Fi _ ?_
    ·refine SR.then (g _ _ _ _ _ _) fun _ _ u r _ _ e=>?_;rw[e.1,e.2];exact .pure rfl
   |_=>exact .pure rfl
  |agg w z=>
   cases j with
   |agg A B=>
    dsimp only;refine SR.then fB fun f L p C _ _ h=>?_;refine SR.then fB fun E v q D _ _ i=>?_;rw[h.1,h.2,i.1,i.2];refine Fi _ ?_
    ·refine SR.then (g _ _ _ _ _ _) fun _ _ u r _ _ e=>?_;rw[e.1,e.2];exact .pure rfl
   |_=>exact .pure rfl
  |_=>exact .pure rfl
theorem acj(op:BinOp)(t x){a a'}(b:VR ρ a a'):SR P dj ρ K (vX op t x (.const .nilIface) a .nilIface) (vX op t x (.const .nilIface) a' .nilIface):=by
 unfold vX;refine Fi _ ?_
 ·cases b with
  |nilIface=>
   dsimp only;simp;exact .pure rfl
  |_=>exact .pure rfl
theorem acd{s d e:aK}(f:P.underlying s=some (.slice e))(c:P.underlying d=some .string)(g:P.underlying e=some (.int .u8)){v v'}(h:VR ρ v v'):SR P VR ρ K (convert s d v) (convert s d v'):=by
 by_cases a:(∃b,v=.string b)\/∃k n,v=.int k n
 ·unfold convert;refine SR.then (aT f) fun _ _ x o l _ i=>?_;obtain⟨rfl,rfl⟩:=i;refine SR.then (aT c) fun _ _ y p m _ j=>?_;obtain⟨rfl,rfl⟩:=j;rcases a with⟨b,rfl⟩|⟨k,n,rfl⟩
  ·cases h;exact .pure (.string _)
  ·cases h;exact .pure (.string _)
 ·exact abZ f c g h (fun b e=>a (.inl ⟨b,e⟩)) (fun k n e=>a (.inr ⟨k,n,e⟩))
theorem aaD(κ:qK){k k' v v'}(a:VR ρ k k')(h:VR ρ v v'):LZ (.int κ) k' v'=LZ (.int κ) k v:=by cases a<;>cases h<;>rfl
theorem Yl(κ:qK){k k'}(c:VR ρ k k'){x x'}(h:wj ρ x x'):∀i,(BK (.int κ) k x i=none/\BK (.int κ) k' x' i=none)\/∃y a,BK (.int κ) k x i=some y/\BK (.int κ) k' x' i=some a/\Found ρ y a:=by
 unfold wj at h;induction h with
 |nil=>exact fun i=>.inr ⟨_,_,rfl,rfl,.none⟩
 |@cons e f _ _ hv _ d=>
  intro i;unfold BK;rw[aaD κ c hv.1];cases LZ (.int κ) k e.key with
  |none=>exact .inl ⟨rfl,rfl⟩
  |some b=>
   cases b with
   |true=>exact .inr ⟨_,_,rfl,rfl,.some i hv.2.1⟩
   |false=>exact d (i+1)
section
variable {k:aK} {κ:qK} {ki:iX}
theorem acv(m:P.underlying k=some (.int κ))(l:P.info? k=some ki)(n:∀u,ki.desc≠.named "sync.copyChecker" u){y y' x x'}(h:wj ρ x x'):∀i (a:Ren) (L:Kn),ρ.le a->VR a y y'->SR P Found a L (LR k y x i) (LR k y' x' i):=by
 unfold wj at h;induction h with
 |nil=>exact fun i a L _ _=>.pure .none
 |@cons e q _ _ hv _ o=>
  intro i a L g d;unfold LR;refine SR.then (SB m l n d (hv.1.mono g)) fun p M b f c _ j=>?_;obtain rfl:f=b:=j;split
  ·exact .pure (.some i (hv.2.1.mono (Ren.le_trans g c)))
  ·exact o (i+1) p M (Ren.le_trans g c) (d.mono c)
theorem Fh(b:P.underlying k=some (.int κ))(d:P.info? k=some ki)(f:∀u,ki.desc≠.named "sync.copyChecker" u){y y'}(c:VR ρ y y'){x x'}(h:wj ρ x x'):SR P Found ρ K (LS k y x) (LS k y' x'):=by
 unfold LS;refine SR.then (aT b) fun l L u m g _ i=>?_;obtain⟨rfl,rfl⟩:=i;rcases Yl κ c h 0 with⟨e,a⟩|⟨z,n,e,a,j⟩
 ·rw[e,a];exact acv b d f h 0 l L g (c.mono g)
 ·rw[e,a];exact .pure (j.mono g)
theorem acK(l:P.underlying k=some (.int κ))(B:P.info? k=some ki)(C:∀u,ki.desc≠.named "sync.copyChecker" u)(A:mw P){t e:aK}(R:P.underlying t=some (.map k e)){v v' q q'}(h:VR ρ v v')(D:VR ρ q q')(ok):SR P VR ρ K (BL t v q ok) (BL t v' q' ok):=by
 have m:∀{z:Ren} {x w:au} (b:Bool),VR z x w->VR z (if ok=true then .tuple #[x,.bool b]else x) (if ok=true then .tuple #[w,.bool b]else w):=fun b E=>by
  split
  ·refine .tuple rfl fun i u Y a d=>?_
   match i,a,d with
   |0,a,d=>cases a;cases d;exact E
   |1,a,d=>cases a;cases d;exact .bool _
   |i+2,a,_=>simp at a
  ·exact E
 unfold BL;refine SR.then (aT R) fun z L y Z g _ S=>?_;obtain⟨rfl,rfl⟩:=S;dsimp only;cases h with
 |lS=>
  refine SR.then (pM _) fun U M H I n _ Q=>?_;obtain⟨rfl,rfl⟩:=Q;refine SR.then (Bl l _ _ _ _) fun V F _ _ j _ _=>?_;refine SR.then (Fh l B C (((D.mono g).mono n).mono j) .nil) fun W G f J O _ p=>?_;cases p with
  |some i hv=>exact .pure (m _ hv)
  |none=>exact SR.then (xj A e) fun _ _ _ _ _ _ s=>.pure (m _ s)
 |map hr=>
  refine .getObj (g _ _ hr) (fun o T r=>?_) ⟨_,rfl,aq⟩;refine SR.then (.pure r) fun U M o T n _ r=>?_;cases r with
  |map c hm=>
   refine SR.then (.pure hm) fun aa X H I N _ hm=>?_;refine SR.then (Bl l _ _ _ _) fun V F _ _ j _ _=>?_;refine SR.then (Fh l B C ((((D.mono g).mono n).mono N).mono j) (hm.mono j).list) fun W G f J O _ p=>?_;cases p with
   |some i hv=>exact .pure (m _ hv)
   |none=>exact SR.then (xj A e) fun _ _ _ _ _ _ s=>.pure (m _ s)
  |_=>exact .lost aq
 |_=>exact .lost aq
end
end
end
section
variable [aA]
section
variable {P:aN} {ρ:Ren} {K:Kn}
theorem aco{t e:aK}(b:P.underlying t=some (.pointer e)){x x'}(c:VR ρ x x'):SR P dj ρ K (ef t x (.pointer none)) (ef t x' (.pointer none)):=by unfold ef sD;rw[show(10000:Nat)=9999+1 from rfl];unfold xV;refine SR.then (aT b) fun h L d f g _ a=>?_;obtain⟨rfl,rfl⟩:=a;cases c<;>first|exact .pure rfl|exact .lost aq
theorem acp{t e:aK}(b:P.underlying t=some (.slice e))(n c){x x'}(f:VR ρ x x'):SR P dj ρ K (ef t x (.slice none n c)) (ef t x' (.slice none n c)):=by unfold ef sD;rw[show(10000:Nat)=9999+1 from rfl];unfold xV;refine SR.then (aT b) fun i L d h g _ a=>?_;obtain⟨rfl,rfl⟩:=a;cases f<;>first|exact .pure rfl|exact .lost aq
theorem Su{op}(g:op=.eql\/op=.neq){t:aK}{y}(f:y=.pointer none\/∃n c,y=.slice none n c){x x'}(e:VR ρ x x')(eq:SR P dj ρ K (ef t x y) (ef t x' y)):SR P VR ρ K (eG op t x y) (eG op t x' y):=by
 have pos:SR P VR ρ K (do pure (.bool (<-ef t x y))) (do pure (.bool (<-ef t x' y))):=SR.then eq fun _ _ b a _ _ d=>by(obtain rfl:a=b:=d;exact .pure (.bool _))
 have neg:SR P VR ρ K (do pure (.bool (!(<-ef t x y)))) (do pure (.bool (!(<-ef t x' y)))):=SR.then eq fun _ _ b a _ _ d=>by(obtain rfl:a=b:=d;exact .pure (.bool _))
 rcases g with rfl|rfl
 ·rcases f with rfl|⟨n,c,rfl⟩<;>cases e<;>simp only[eG]<;>exact pos
 ·rcases f with rfl|⟨n,c,rfl⟩<;>cases e<;>simp only[eG]<;>exact neg
theorem ack{t:aK}(c:P.underlying t=some .bool){x x' y y'}(e:VR ρ x x')(a:VR ρ y y'):SR P dj ρ K (ef t x y) (ef t x' y'):=by
 unfold ef sD;rw[show(10000:Nat)=9999+1 from rfl];unfold xV;refine SR.then (aT c) fun h L d f g _ b=>?_;obtain⟨rfl,rfl⟩:=b;cases e with
 |bool s=>cases a<;>first|exact .pure rfl|exact .lost aq
 |_=>cases a<;>exact .lost aq
theorem Ss{op}(f:op=.eql\/op=.neq){t:aK}{x x' y y'}(d:VR ρ x x')(e:VR ρ y y')(eq:SR P dj ρ K (ef t x y) (ef t x' y')):SR P VR ρ K (eG op t x y) (eG op t x' y'):=by
 have pos:SR P VR ρ K (do pure (.bool (<-ef t x y))) (do pure (.bool (<-ef t x' y'))):=SR.then eq fun _ _ b a _ _ c=>by(obtain rfl:a=b:=c;exact .pure (.bool _))
 have neg:SR P VR ρ K (do pure (.bool (!(<-ef t x y)))) (do pure (.bool (!(<-ef t x' y')))):=SR.then eq fun _ _ b a _ _ c=>by(obtain rfl:a=b:=c;exact .pure (.bool _))
 rcases f with rfl|rfl
 ·cases d<;>cases e<;>first|(simp only[eG];exact pos)|exact Kz _ _ _ _ _ _|exact KA _ _ _ _
 ·cases d<;>cases e<;>first|(simp only[eG];exact neg)|exact Kz _ _ _ _ _ _|exact KA _ _ _ _
theorem AR.RX(c:ρ.one){a a' b b'}(h:AR ρ a a')(k:AR ρ b b'):(a'=b')↔(a=b):=by
 obtain⟨d,j,l⟩:=h;obtain⟨e,m,n⟩:=k;constructor
 ·rintro rfl;rcases a with⟨a1,f,a3⟩;rcases b with⟨b1,g,i⟩;have:=c.2 _ _ _ d e
  simp_all
 ·rintro rfl;rcases a' with⟨a1,f,a3⟩;rcases b' with⟨b1,g,i⟩;have:=c.1 _ _ _ d e
  simp_all
theorem AR.RU(d:ρ.one){a a' b b'}(h:AR ρ a a')(k:AR ρ b b'):(a'==b')=(a==b):=by
 have:=AR.RX d h k
 by_cases e:a=b
 ·simp[e,this.2 e]
 ·have c:a'≠b':=fun x=>e (this.1 x);rw[sG.2 e,sG.2 c]
def Qo(a b:eV):Sem Bool:=Ag a >>= fun _=>Ag b >>= fun _=>Cq a b >>= fun z=>if z then choose (.extern "sameAddr.stringBytes" 2) >>= fun n=>pure (n==1)else pure false
theorem adg{a a' b b'}(d:AR ρ a a')(f:AR ρ b b'):SR P dj ρ K (sameAddr a b) (sameAddr a' b'):=by
 refine .assume fun k=>?_
 have q:(a'.block==b'.block)=(a.block==b.block):=by
  by_cases h:a.block=b.block
  ·have:a'.block=b'.block:=k.1.1 _ _ _ d.1 (h▸f.1);simp[h,this]
  ·have p:a'.block≠b'.block:=fun e=>h (k.1.2 _ _ _ d.1 (e▸f.1));rw[sG.2 h,sG.2 p]
 unfold sameAddr;rw[q];cases h:(a.block==b.block)with
 |true=>
  simp only[cD,(AR.RU k.1 d f)];exact .pure rfl
 |false=>
  simp;refine .icy d fun x=>?_;refine .icy f fun y=>?_
  have rest:∀(i:Ren) (L:Kn),ρ.le i->SR P dj i L (Qo a b) (Qo a' b'):=fun i L g=>by
   have s:∀{c l:eV},AR i c l->SR P dj i L (Ag c) (Ag l):=fun r=>KI r;refine SR.then (s (d.mono g)) fun t o _ _ j _ _=>?_;refine SR.then (KI ((f.mono g).mono j):SR P dj t o (Ag b) (Ag b')) fun v u _ _ m _ _=>?_;refine .kin (((d.mono g).mono j).mono m) (((f.mono g).mono j).mono m) fun z=>?_;cases z with
   |true=>exact .choose fun n=>.pure rfl
   |false=>exact .pure rfl
  cases x<;>cases y<;>first|exact rest ρ K (Ren.le_refl _)|exact SR.lost (x:=.unsupported .addressObserved) trivial
theorem acn{t e:aK}(k:P.underlying t=some (.pointer e)){x x' y y'}(l:VR ρ x x')(b:VR ρ y y'):SR P dj ρ K (ef t x y) (ef t x' y'):=by
 unfold ef sD;rw[show(10000:Nat)=9999+1 from rfl];unfold xV;refine SR.then (aT k) fun q L d p g _ h=>?_;obtain⟨rfl,rfl⟩:=h;cases l with
 |gi=>cases b<;>first|exact .pure rfl|exact .lost aq
 |ptr c=>
  cases b with
  |gi=>exact .pure rfl
  |ptr f=>
   refine SR.then (jN e) fun r o n m a _ j=>?_;obtain rfl:m=n:=j;split
   ·exact adg ((c.mono g).mono a) ((f.mono g).mono a)
   ·refine .assume fun i=>?_;rw[AR.RU i.1 ((c.mono g).mono a) ((f.mono g).mono a)];split
    ·exact .pure rfl
    ·exact .choose fun n=>.pure rfl
  |_=>exact .lost aq
 |_=>cases b<;>exact .lost aq
theorem acW{x x'}(h:VR ρ x x'):SR P VR ρ K (oc .neg x) (oc .neg x'):=by
 cases h with
 |int k n=>exact SD .sub k 0 n
 |_=>simp only[oc];exact .lost aq
theorem acO(t):SR P VR ρ K (Up t none) (Up t none):=by exact .new (.map 0 ⟨rfl,fun i e a h=>by simp at h⟩) fun n b=>.pure (.map (.inr ⟨rfl,rfl⟩))
theorem acL{t e:aK}{d}(j:P.underlying t=some (.chan d e)){x x'}(k:VR ρ x x'):SR P VR ρ K (LW t x) (LW t x'):=by
 unfold LW;refine SR.then (xe k) fun w L n a g _ f=>?_;obtain rfl:a=n:=f;refine SR.then (aT j) fun z p y v q _ l=>?_;obtain⟨rfl,rfl⟩:=l;dsimp only;refine SR.then (kF e) fun o b i s r _ c=>?_;obtain⟨rfl,_⟩:=c;split
 ·exact SR.then (Q:=fun _ _ _=>False) (Fo _) fun _ _ _ _ _ _ h=>h.elim
 ·show SR P VR o b (Sem.new (.chan a.toNat #[] false 0 0 false) fun n=>pure (.chan (some n))) (Sem.new (.chan a.toNat #[] false 0 0 false) fun n=>pure (.chan (some n)));exact .new (.chan _ _ _ _ _) fun m u=>.pure (.chan (.inr ⟨rfl,rfl⟩))
theorem abT{v v'}(h:VR ρ v v'){t e:aK}(d:P.underlying t=some (.slice e))(ty):SR P VR ρ K (Lt #[t] ty #[v]) (Lt #[t] ty #[v']):=by unfold Lt;simp;refine SR.then (aT d) fun g L a b f _ c=>?_;obtain⟨rfl,rfl⟩:=c;cases h<;>first|exact .pure (.int _ _)|exact .lost aq
theorem acU{x x' y y' z z'}(h:VR ρ x x')(k:VR ρ y y')(m:VR ρ z z')(ts t):SR P VR ρ K (FK ts t #[x,y,z]) (FK ts t #[x',y',z']):=by exact SR.then (KE h k) fun _ _ _ _ g _ hv=>SR.then (KE hv (m.mono g)) fun _ _ _ _ _ _ a=>.pure a
theorem U1{z z'}(h:bf ρ z z')(n):(∀(j:Nat) v a,(lU z n).toList[j]? =some v->(lU z' n).toList[j]? =some a->VR ρ v a)/\(lU z' n).toList.length=(lU z n).toList.length:=by
 unfold lU;constructor
 ·intro j v a b c;simp only[kK,fj]at b c;obtain⟨i,g,rfl⟩:=ep.1 b;obtain⟨m,k,rfl⟩:=ep.1 c;have o:j<n*z.size:=by grind
  have e:i=j:=by grind
  have f:m=j:=by grind
  rw[e]at g⊢;rw[f]at k⊢;have l:0<z.size:=by grind
  have hm:j %z.size<z.size:=xT _ l;have d:j %z'.size<z'.size:=by rw[h.1];exact hm
  rw[getElem!_pos z _ hm,getElem!_pos z' _ d];exact h.2 (j %z.size) _ _ (cw hm) (by rw[<-h.1];exact cw d)
 ·simp[h.1]
theorem abV(m:mw P){v j}(h:VR ρ v j){t e:aK}(q:P.underlying t=some (.slice e))(ty):SR P VR ρ K (tT #[t] ty #[v]) (tT #[t] ty #[j]):=by
 have fin:∀(k:Ren) (L:Kn),SR P VR k L (pure (.tuple #[])) (pure (.tuple #[])):=fun k L=>.pure (.tuple rfl fun i v j hv=>by simp at hv);unfold tT;simp;refine SR.then (aT q) fun k L a b d _ p=>?_;obtain⟨rfl,rfl⟩:=p;cases h with
 |lS=>exact fin _ _
 |@map r C hr=>
  refine .getObj (d _ _ hr) (fun o w g=>?_) ⟨_,rfl,aq⟩;refine SR.then (.pure g) fun A M o w f u g=>?_;cases g with
  |map c hm=>exact .setObj (f _ _ (d _ _ hr)) (u _ (.inr rfl)) (.map _ ⟨rfl,fun i e B h=>by simp at h⟩) (fin _ _)
  |_=>exact .lost aq
 |fJ l c=>exact fin _ _
 |slice l c n=>
  cases l with
  |zero=>exact fin _ _
  |succ l=>
   refine SR.then (xj m e) fun A M z D f _ s=>?_;obtain⟨x,y⟩:=U1 s.cells (l+1);refine SR.then (Fq ((n.mono d).mono f) _ _ 0 _ y x) fun _ _ _ _ _ _ _=>fin _ _
 |_=>exact .lost aq
theorem SN(isS len cap){c a hi hi' mx mx'}(h:VO ρ c a)(i:VR ρ hi hi')(j:VR ρ mx mx'):SR P dj ρ K (zO isS len cap c (some hi) (some mx)) (zO isS len cap a (some hi') (some mx')):=by
 unfold zO;dsimp only;refine SR.then (zk j _ _) fun p L m k d _ f=>?_;obtain rfl:k=m:=f;refine SR.then (zk (i.mono d) _ _) fun q M y n g _ e=>?_;obtain rfl:n=y:=e;have b:=(h.mono d).mono g;cases c with
 |none=>cases a with
  |none=>exact .pure rfl
  |some v=>exact b.elim
 |some v=>cases a with
  |none=>exact b.elim
  |some o=>exact SR.then (zk b _ _) fun _ _ x l _ _ e=>by(obtain rfl:l=x:=e;exact .pure rfl)
theorem adi{v v'}(h:VR ρ v v'){lo lo' hi hi' mx mx'}(m:VO ρ lo lo')(o:VR ρ hi hi')(p:VR ρ mx mx'){t e:aK}(r:P.underlying t=some (.slice e)):SR P VR ρ K (tW t v lo (some hi) (some mx)) (tW t v' lo' (some hi') (some mx')):=by
 unfold tW;refine SR.then (aT r) fun H E a b g0 _ i=>?_;obtain⟨rfl,rfl⟩:=i;dsimp only;unfold Instr.slice;refine SR.then (aT r) fun G L a b s _ i=>?_;obtain⟨rfl,rfl⟩:=i;have d:=Ren.le_trans g0 s;cases h.mono d with
 |fJ l c=>
  refine SR.then (SN true _ _ (m.mono d) (o.mono d) (p.mono d)) fun C M x f _ _ ex=>?_;obtain rfl:f=x:=ex;refine SR.then (jN e) fun D N n j _ _ g=>?_;obtain rfl:j=n:=g;obtain⟨A,z,B⟩:=f;simp;exact .pure (.fJ _ _)
 |@slice c F l k y=>
  refine SR.then (SN true _ _ (m.mono d) (o.mono d) (p.mono d)) fun C M x f u _ ex=>?_;obtain rfl:f=x:=ex;refine SR.then (jN e) fun D N n j w _ g=>?_;obtain rfl:j=n:=g;have q:=(y.mono u).mono w;obtain⟨A,z,B⟩:=f;split
  ·exact .pure (.slice _ _ q)
  ·exact .pure (.slice _ _ (q.add _))
 |_=>exact .lost aq
theorem adj{v v'}(h:VR ρ v v'){lo lo' hi hi'}(l:VO ρ lo lo')(o:VO ρ hi hi'){t e:aK}{n}(r:P.underlying t=some (.array n e)):SR P VR ρ K (tW t v lo hi none) (tW t v' lo' hi' none):=by
 unfold tW;refine SR.then (aT r) fun B L a b c _ q=>?_;obtain⟨rfl,rfl⟩:=q;dsimp only;refine SR.then (Fu (h.mono c)) fun C u a w d _ p=>?_;refine SR.then (Fp false n n ((l.mono c).mono d) ((o.mono c).mono d)) fun D M x g j _ ex=>?_;obtain rfl:g=x:=ex;refine SR.then (jN e) fun E N m s k _ i=>?_;obtain rfl:s=m:=i;have f:=(p.mono j).mono k;obtain⟨z,y,A⟩:=g;dsimp only;split
 ·exact .pure (.slice _ _ f)
 ·exact .pure (.slice _ _ (f.add _))
theorem lI.erase{x x'}(h:lI ρ x x')(i):lI ρ (x.eraseIdxIfInBounds i) (x'.eraseIdxIfInBounds i):=by
 have c:∀y:Array MapEntry,(y.eraseIdxIfInBounds i).toList=y.toList.eraseIdx i:=fun y=>by simp
 refine⟨?_,fun j e d f a=>?_⟩
 ·rw[<-vH,<-vH,c,c,UG,UG];simp[h.1]
 ·rw[<-kK,c,List.getElem?_eraseIdx]at f a;split at f
  ·rename_i b;rw[aM b]at a;exact h.2 j e d (by grind) (by grind)
  ·rename_i b;rw[aD b]at a;exact h.2 (j+1) e d (by grind) (by grind)
theorem acg{t k e t2 z:aK}{κ}{w:iX}(b:P.underlying k=some (.int κ))(B:P.info? k=some w)(C:∀u,w.desc≠.named "sync.copyChecker" u)(E:P.underlying t=some (.map k e)){v j q q'}(h:VR ρ v j)(D:VR ρ q q'):SR P VR ρ K (Lv #[t,t2] z #[v,q]) (Lv #[t,t2] z #[j,q']):=by
 have fin:∀(l:Ren) (L:Kn),SR P VR l L (pure (.tuple #[])) (pure (.tuple #[])):=fun l L=>.pure (.tuple rfl fun i v j hv=>by simp at hv);unfold Lv;simp;refine SR.then (aT E) fun l L y T g _ F=>?_;obtain⟨rfl,rfl⟩:=F;dsimp only;cases h with
 |lS=>exact SR.then (Bl b _ _ _ _) fun _ _ _ _ _ _ _=>fin _ _
 |@map r S hr=>
  refine .getObj (g _ _ hr) (fun o N d=>?_) ⟨_,rfl,aq⟩;have J:(L.and r) r:=.inr rfl;refine SR.then (.pure d) fun U M o N m G d=>?_;cases d with
  |map c hm=>
   refine SR.then (Bl b _ _ _ _) fun V O _ _ a H _=>?_;refine SR.then (Fh b B C (((D.mono g).mono m).mono a) (hm.mono a).list) fun W Q f R n I A=>?_;have p:=Ren.le_trans (Ren.le_trans (Ren.le_trans g m) a) n;have s:=(hm.mono a).mono n;have x:=I _ (H _ (G _ J));cases A with
   |some i hv=>exact .setObj (p _ _ hr) x (.map _ (s.erase i)) (fin _ _)
   |none=>exact .setObj (p _ _ hr) x (.map _ s) (fin _ _)
  |_=>exact .lost aq
 |_=>exact .lost aq
end
end
section
variable [aA]
section
variable {P:aN} {ρ:Ren} {K:Kn}
theorem AR.beq(d:ρ.one){a a' b b'}(h:AR ρ a a')(k:AR ρ b b'):(some a'==some b')=(some a==some b):=by
 have:=AR.RX d h k
 by_cases e:a=b
 ·have c:=this.2 e;subst e;subst c;simp
 ·have c:¬a'=b':=fun x=>e (this.1 x);rw[sG.2 (fun x=>e (dm x)),sG.2 (fun x=>c (dm x))]
theorem Ren.beq(c:ρ.one){a a' b b'}(h:ρ a a')(k:ρ b b'):(some a'==some b')=(some a==some b):=by
 by_cases e:a=b
 ·subst e;have:=c.1 _ _ _ h k;subst this;simp
 ·have d:¬a'=b':=fun x=>e (by subst x;exact c.2 _ _ _ h k);rw[sG.2 (fun x=>e (dm x)),sG.2 (fun x=>d (dm x))]
theorem VI{f:au->au->Bool}(hf:∀{a a' b e:au},VR ρ a a'->VR ρ b e->f a' e=f a b){x h:List au}(g:qj ρ x h):∀{y d:List au},qj ρ y d->((h.zip d).all fun(p:au×au)=>f p.1 p.2)=((x.zip y).all fun(p:au×au)=>f p.1 p.2):=by
 unfold qj at g;induction g with
 |nil=>intro y d _;simp
 |cons hv _ j=>
  intro y d c;unfold qj at c;cases c with
  |nil=>simp
  |cons i c=>simp;rw[hf hv i,j c]
theorem aaC(c:ρ.one):∀(n:Nat) {a a' b e:au},VR ρ a a'->VR ρ b e->Ga n a' e=Ga n a b:=by
 intro n;induction n with
 |zero=>
  intro a a' b e f d;cases f<;>cases d<;>first|rfl|exact AR.beq c ‹_› ‹_›|exact Ren.beq c ‹_› ‹_›
 |succ n g=>
  intro a a' b e f d;cases f with
  |ptr h=>cases d<;>first|rfl|exact AR.beq c h ‹_›
  |chan h=>cases d<;>first|rfl|exact Ren.beq c h ‹_›
  |iface t h=>
   cases d with
   |iface u k=>simp only[Ga];rw[g h k]
   |_=>rfl
  |@agg x m c j=>
   cases d with
   |@agg y o i l=>
    simp only[Ga];rw[c,i];have:=VI g (bf.list ⟨c,j⟩) (bf.list ⟨i,l⟩);rw[this]
   |_=>rfl
  |_=>cases d<;>rfl
theorem acE{v v' q q'}(h:VR ρ v v')(a:VR ρ q q'):SR P VR ρ K (LV v q) (LV v' q'):=by
 refine .assume fun g=>?_;unfold LV;rw[aaC g.1 10000 h a];split
 ·exact .pure a
 ·refine SR.then (vA _) fun _ _ c b g _ d=>?_;obtain rfl:b=c:=d;split
  ·exact .pure (a.mono g)
  ·exact .pure (h.mono g)
theorem acS{t k e:aK}{κ}{A:iX}(s:P.underlying k=some (.int κ))(D:P.info? k=some A)(E:∀u,A.desc≠.named "sync.copyChecker" u)(F:P.underlying t=some (.map k e)){v v' q q' x x'}(h:VR ρ v v')(d:VR ρ q q')(w:VR ρ x x'):SR P dj ρ K (LX t v q x) (LX t v' q' x'):=by
 unfold LX;refine SR.then (aT F) fun Z L y X g _ G=>?_;obtain⟨rfl,rfl⟩:=G;dsimp only;cases h with
 |lS=>exact Fo _
 |@map r W hr=>
  refine .getObj (g _ _ hr) (fun o R m=>?_) ⟨_,rfl,aq⟩;have Q:(L.and r) r:=.inr rfl;refine SR.then (.pure m) fun τ M o R n I m=>?_;cases m with
  |map c hm=>
   refine SR.then (Bl s _ _ _ _) fun af S _ _ b J _=>?_;refine SR.then (Fh s D E (((d.mono g).mono n).mono b) (hm.mono b).list) fun ah T f V p N C=>?_;have a:=Ren.le_trans (Ren.le_trans (Ren.le_trans g n) b) p;have l:=(hm.mono b).mono p;have B:=N _ (J _ (I _ Q));cases C with
   |some i hv=>
    refine SR.then (acE (O9 l i (d.mono a)) (d.mono a)) fun aj U z Y j O H=>?_;exact .setObj (j _ _ (a _ _ hr)) (O _ B) (.map _ ((l.mono j).modify H ((w.mono a).mono j) i)) (.pure rfl)
   |none=>exact .setObj (a _ _ hr) B (.map _ (l.push ⟨d.mono a,w.mono a,rfl⟩)) (.pure rfl)
  |_=>exact .lost aq
 |_=>exact .lost aq
def yw(P:aN):Prop:=∀f,aA.ok f->∃a,P.funcs[f]? =some a/\(a.name== "runtime.NumGoroutine")=false/\a.body.isNone=false
inductive nG(P:aN):Builtin->Array aK->Prop
 |append {t u e:aK} {d:jy} (b:P.underlying t=some (.slice e)) (m:P.underlying u=some d) (i:d=.string\/∃f,d=.slice f):nG P .append #[t,u]
 |close (a:Array aK):nG P .close a
 |copy {t u e:aK} (b:P.underlying t=some (.slice e)):nG P .copy #[t,u]
 |Qv {t e:aK} (b:P.underlying t=some (.slice e)):nG P .len #[t]
 |Qw {t:aK} (b:P.underlying t=some .string):nG P .len #[t]
 |min (a:Array aK) (h:a.size=2\/a.size=3):nG P .min a
 |cap {t e:aK} (b:P.underlying t=some (.slice e)):nG P .cap #[t]
 |clear {t e:aK} (b:P.underlying t=some (.slice e)):nG P .clear #[t]
 |delete {t t2 k e:aK} {g:qK} {c:iX} (j:P.underlying k=some (.int g)) (hi:P.info? k=some c) (l:∀u,c.desc≠.named "sync.copyChecker" u) (b:P.underlying t=some (.map k e)):nG P .delete #[t,t2]
 |recover (a:Array aK):nG P .recover a
 |unsafeString (t u:aK):nG P .unsafeString #[t,u]
theorem xp{x b}(h:bf ρ x b)(d:x.size=1):∃a c,x=#[a]/\b=#[c]/\VR ρ a c:=by
 obtain⟨a,rfl⟩:∃a,x=#[a]:=by
  rcases x with⟨x⟩
  match x,d with
  |[a],_=>exact⟨a,rfl⟩
 obtain⟨c,rfl⟩:∃a,b=#[a]:=by
  have:=h.1;rcases b with⟨b⟩
  match b,this with
  |[a],_=>exact⟨a,rfl⟩
 exact⟨a,c,rfl,rfl,h.2 0 a c rfl rfl⟩
theorem Bv{x c}(h:bf ρ x c)(f:x.size=2):∃a d b e,x=#[a,b]/\c=#[d,e]/\VR ρ a d/\VR ρ b e:=by
 obtain⟨a,b,rfl⟩:∃a b,x=#[a,b]:=by
  rcases x with⟨x⟩
  match x,f with
  |[a,b],_=>exact⟨a,b,rfl⟩
 obtain⟨d,e,rfl⟩:∃a b,c=#[a,b]:=by
  have:=h.1;rcases c with⟨c⟩
  match c,this with
  |[a,b],_=>exact⟨a,b,rfl⟩
 exact⟨a,d,b,e,rfl,rfl,h.2 0 a d rfl rfl,h.2 1 b e rfl rfl⟩
theorem aeP{x d}(h:bf ρ x d)(i:x.size=3):∃a e b f c g,x=#[a,b,c]/\d=#[e,f,g]/\VR ρ a e/\VR ρ b f/\VR ρ c g:=by
 obtain⟨a,b,c,rfl⟩:∃a b c,x=#[a,b,c]:=by
  rcases x with⟨x⟩
  match x,i with
  |[a,b,c],_=>exact⟨a,b,c,rfl⟩
 obtain⟨e,f,g,rfl⟩:∃a b c,d=#[a,b,c]:=by
  have:=h.1;rcases d with⟨d⟩
  match d,this with
  |[a,b,c],_=>exact⟨a,b,c,rfl⟩
 exact⟨a,e,b,f,c,g,rfl,rfl,h.2 0 a e rfl rfl,h.2 1 b f rfl rfl,h.2 2 c g rfl rfl⟩
def Nr(b:Builtin)(a:Array aK):Nat:=match b with
 |.append|.copy|.unsafeString|.delete=>2
 |.min=>a.size
 |.close|.len|.cap|.clear=>1
 |_=>0
theorem abQ(o:mw P){b m}(h:nG P b m)(t cs){x x'}(j:bf ρ x x')(i:x.size=Nr b m):SR P NR ρ K (builtin b m t cs x) (builtin b m t cs x'):=by
 cases h with
 |append f s n=>
  obtain⟨a,k,c,l,rfl,rfl,e,g⟩:=Bv j i;exact dD (abF o e g f s n)
 |close=>
  obtain⟨a,k,rfl,rfl,e⟩:=xp j i;exact dD (abW e _ _)
 |copy f=>
  obtain⟨a,k,c,l,rfl,rfl,e,g⟩:=Bv j i;exact dD (acf e g f)
 |Qv f=>
  obtain⟨a,k,rfl,rfl,e⟩:=xp j i;exact dD (acF e f _)
 |Qw f=>
  obtain⟨a,k,rfl,rfl,e⟩:=xp j i;exact dD (acG e f _)
 |min m h=>
  rcases h with h|h
  ·obtain⟨a,k,c,l,rfl,rfl,e,g⟩:=Bv j (i.trans h);exact dD (acV e g _ _)
  ·obtain⟨a,k,c,l,d,v,rfl,rfl,e,g,n⟩:=aeP j (i.trans h);exact dD (acU e g n _ _)
 |cap f=>
  obtain⟨a,k,rfl,rfl,e⟩:=xp j i;exact dD (abT e f _)
 |clear f=>
  obtain⟨a,k,rfl,rfl,e⟩:=xp j i;exact dD (abV o e f _)
 |delete q p r f=>
  obtain⟨a,k,c,l,rfl,rfl,e,g⟩:=Bv j i;exact dD (acg q p r f e g)
 |recover=>exact .pure .recover
 |unsafeString t u=>
  obtain⟨a,k,c,l,rfl,rfl,e,g⟩:=Bv j i;exact dD (adu e g _ _ _)
theorem SE(hF:yw P){t t'}(h:TR ρ t t'){x x'}(b:bf ρ x x'):SR P NR ρ K (invoke t x) (invoke t' x'):=by
 cases h with
 |fn i g=>
  cases i with
  |func f a=>
   obtain⟨fn,c,d,e⟩:=hF f a;exact Sx a c d e (b.append g)
  |yield j=>exact adx j b
 |nil=>exact zi
 |collected h=>exact .lost aq
theorem Sy(hF:yw P){f f'}(h:VR ρ f f'){x b}(c:bf ρ x b):SR P NR ρ K (do let d <-vM f x;invoke d.target d.args) (do let d <-vM f' b;invoke d.target d.args):=
 SR.then (SK h c) fun _ _ _ _ _ _ a=>SE hF a.1 a.2
def CG(P:aN)(name:String):Prop:=∀t i m,P.info? t=some i->i.methods.find? (·.name==name)=some m->∃f e,m.path=#[]/\m.func=some (f,true)/\aA.ok f/\P.underlying t=some (.pointer e)
theorem acT{name}(hm:CG P name)(n t){v v'}(h:VR ρ v v'):SR P (fun p x d=>d.1=x.1/\aA.ok x.1/\VR p x.2 d.2) ρ K (method n t v name) (method n t v' name):=by
 cases n with
 |zero=>exact .lost aq
 |succ n=>
  unfold method;refine SR.then (kF t) fun p L i o g _ c=>?_;obtain⟨rfl,c⟩:=c;cases w:o.methods.find? (·.name==name)with
  |none=>exact .lost aq
  |some m=>
   obtain⟨f,e,j,k,s,u⟩:=hm t o m c w;obtain⟨m1,m2,D,E⟩:=m;simp only at j k;subst j k;dsimp only;refine SR.then (Q:=fun _ a b=>a=(t,.val v)/\b=(t,.val v')) (by unfold follow;exact .pure ⟨rfl,rfl⟩) fun G B a b q _ l=>?_;rw[l.1,l.2];dsimp only;refine SR.then ?_ fun _ _ x d _ _ z=>.pure ⟨rfl,s,z⟩;unfold receiverAt;refine SR.then (aT u) fun H C y F r _ A=>?_;obtain⟨rfl,rfl⟩:=A;exact .pure (((h.mono g).mono q).mono r)
theorem abS(hF:yw P){name}(hm:CG P name){r r'}(h:VR ρ r r'){x x'}(m:bf ρ x x'):SR P NR ρ K (Gx r name x) (Gx r' name x'):=by
 unfold Gx;cases h with
 |iface t hv=>
  refine SR.then fB fun E L p B g _ j=>?_;rw[j.1,j.2];refine SR.then (acT hm _ t (hv.mono g)) fun F z y u l _ n=>?_;obtain⟨f,w⟩:=y;obtain⟨k,D⟩:=u;obtain⟨e,c,d⟩:=n;simp only at e c d;subst e;obtain⟨A,o,q,s⟩:=hF k c
  exact Sx c o q s (bf.append ⟨rfl,fun i v C a b=>by
   match i,a,b with
   |0,a,b=>cases a;cases b;exact d
   |i+1,a,_=>simp at a⟩ ((m.mono g).mono l))
 |nilIface=>exact zi
 |_=>exact .lost aq
theorem acC(hF:yw P){name}(hm:CG P name){r r'}(h:VR ρ r r'){x x'}(d:bf ρ x x'):SR P NR ρ K (invoke (.fn (.method name) #[]) (#[r]++x)) (invoke (.fn (.method name) #[]) (#[r']++x')):=by
 have e:∀(a:au) (y:Array au),invoke (.fn (.method name) #[]) (#[a]++y)=Gx a name y:=fun a y=>by
  unfold invoke;have b:(#[a]++y)[0]? =some a:=by rw[FI aq];rfl
  have c:(#[a]++y).extract 1 (#[a]++y).size=y:=by
   apply xy
   ·simp
   ·intro i b c;simp
  simp only[b,c]
 rw[e,e];exact abS hF hm h d
end
end
theorem Y5{a:aK->Option iX}{d:jy}{i:iX}(h:so a d=some i):i.methods=#[]:=by
 unfold so at h;cases d with
 |pointer e=>
  obtain⟨j,_,h⟩:=eo.1 h;split at h
  ·cases h
  ·split at h
   ·cases h
   ·obtain⟨s,_,h⟩:=eo.1 h;cases h;rfl
  ·obtain⟨s,_,h⟩:=eo.1 h;cases h;rfl
 |slice e=>
  obtain⟨j,_,h⟩:=eo.1 h;obtain⟨s,_,h⟩:=eo.1 h;cases h;rfl
 |map k e=>
  obtain⟨j,_,h⟩:=eo.1 h;obtain⟨s,_,h⟩:=eo.1 h;obtain⟨j,_,h⟩:=eo.1 h;obtain⟨s,_,h⟩:=eo.1 h;cases h;rfl
 |chan b e=>
  obtain⟨j,_,h⟩:=eo.1 h;obtain⟨s,_,h⟩:=eo.1 h;cases h;rfl
 |func f g v=>
  obtain⟨s,_,h⟩:=eo.1 h;cases h;rfl
 |array n e=>
  obtain⟨j,_,h⟩:=eo.1 h;obtain⟨s,_,h⟩:=eo.1 h;cases h;rfl
 |struct c=>
  unfold Made.reckonStruct at h;obtain⟨s,_,h⟩:=eo.1 h;dsimp only at h;split at h<;>(cases h;rfl)
 |_=>cases h
def QG(P:aN)(l:List bh)(name:String):Bool:=(List.range P.types.size).all fun t=>match P.types[t]? with
 |some i=>(match i.methods.find? (·.name==name)with
  |some m=>m.path.isEmpty&&(match m.func with|some (f,p)=>p&&l.contains f|none=>false)&&(match P.underlying t with|some (.pointer _)=>true|_=>false)
  |none=>true)
 |none=>true
theorem F8[aA]{P l name}(r:∀f,l.contains f=true->aA.ok f)(h:QG P l name=true):CG P name:=by
 intro t i m a g;unfold Tables.info? at a
 by_cases c:t<P.types.size
 ·rw[aM c]at a;have:=nE.1 h t (lY.2 c);simp only[a,g,cm]at this;obtain⟨⟨k,b⟩,j⟩:=this;split at b
  ·rename_i f p q;simp only[cm]at b;split at j
   ·rename_i e o;refine⟨f,e,by simpa using k,?_,r f b.2,o⟩;rw[q,b.1]
   ·cases j
  ·cases b
 ·rw[aD c]at a;unfold Me at a;rw[show(100:Nat)=99+1 from rfl]at a;unfold Made.infoAt at a;rw[aD c]at a;obtain⟨d,_,n⟩:=eo.1 a;rw[Y5 n]at g;simp at g
section
variable [aA]
def EV(P:aN)(t:aK):Bool:=match P.underlying t with
 |some (.int _)=>true
 |some (.struct a)=>a.all fun f=>(match P.underlying f.type with|some (.pointer _)=>true|some (.slice _)=>true|_=>false)
 |_=>false
theorem Sc{t:aK}(h:EV aA.prog t=true):uC t:=by
 intro off v hv;have c:aA.prog.depth=(2*(aA.prog.types.size+Me)+1)+1:=rfl;rw[c]at hv;generalize 2*(aA.prog.types.size+Me)+1=d at hv;unfold EV at h;split at h
 ·rename_i k j;unfold plainCell at hv;rw[j]at hv;dsimp only at hv;split at hv
  ·cases hv;exact⟨k,rfl⟩
  ·cases hv
 ·rename_i l i;unfold plainCell at hv;rw[i]at hv;dsimp only at hv;exfalso;obtain⟨f,g,hv⟩:=Array.exists_of_findSome?_eq_some hv;split at hv
  ·have b:=pQ.1 h f g;cases d with
   |zero=>cases hv
   |succ d=>
    unfold plainCell at hv;split at b
    ·rename_i e a;rw[a]at hv;cases hv
    ·rename_i e a;rw[a]at hv;cases hv
    ·cases b
  ·cases hv
 ·cases h
section
variable {P:aN} {ρ:Ren} {K:Kn}
theorem SL{a a'}(h:AR ρ a a'):SR P AR ρ K (rT a) (rT a'):=by
 unfold rT;refine SR.view h.1 (.pure h) fun b f t c=>?_;dsimp only;rw[h.2.1,h.2.2,c.2.2];split
 ·exact .pure c
 ·split
  ·exact .lost trivial
  ·refine SR.then fB fun k L p i g _ d=>?_;rw[d.1,d.2];split
   ·rename_i j _;refine .shape (g _ _ c.1) (fun x=>?_) (fun _=>.lost trivial) fun _=>⟨_,rfl,trivial⟩;obtain⟨e,n⟩:=x;simp only[cA];split
    ·exact .lost trivial
    ·rw[c.2.1];split
     ·exact .pure ⟨g _ _ c.1,rfl,rfl⟩
     ·exact .lost trivial
   ·exact .lost trivial
theorem abU{r r'}(h:ρ r r')(a:K r):SR P dj ρ K (qv r) (qv r'):=by unfold qv;refine .shape h (fun x=>.pure rfl) (fun _=>?_) fun b=>absurd a b;refine .AI h a fun o d c=>?_;cases c<;>exact .pure rfl
theorem adw{a a'}(h:AR ρ a a')(d:K a.block)(t n):SR P dj ρ K (GI a t n) (GI a' t n):=by unfold GI;refine SR.then fB fun j L p i g c b=>?_;rw[b.1,b.2];refine .shape (g _ _ h.1) (fun x=>?_) (fun _=>.pure rfl) fun f=>absurd (c _ d) f;obtain⟨e,n⟩:=x;rw[h.2.1];exact .pure rfl
def toRest(t:aK)(s:eV):Sem au:=do
 let a:=match <-qv s.block with
  |some cells=>s.off≥cells&&s.spot.isNone
  |none=>false
 if(<-sizeOf t)=0||a then pure (aF (<-Af (.view s t)))else
 pure (.pointer (some s))
def yE(u:aK)(a:eV):Sem au:=do
    if(<-sizeOf u)=0||(<-GI a u 1)then pure (.pointer (some a))
    else
     match <-shape a.block with
     |some (e,_)=>
      if(<-program).holdsStoodIn (<-program).depth e then unsupported (.unsafePointer "memory that holds a struct of a package that the model stands in for, seen as another type")
     |none=>unsupported (.unsafePointer "memory that has no shape (a package-level variable that still waits for its initialiser), seen as another type")
     pure (aF (<-Af (.view a u)))
theorem SP{t:aK}(k:uC t){a a'}(h:AR ρ a a')(i:K a.block):SR P VR ρ K (toRest t a) (toRest t a'):=by
 unfold toRest;refine SR.then (abU h.1 i) fun r L x e g _ l=>?_;obtain rfl:e=x:=l;refine SR.then (jN t) fun p M n o f _ j=>?_;obtain rfl:o=n:=j;have d:=(h.mono g).mono f;rw[h.2.1,h.2.2]
 have fin:∀b:Bool,SR P VR p M (if b=true then do pure (aF (<-Af (.view a t)))else pure (.pointer (some a))) (if b=true then do pure (aF (<-Af (.view a' t)))else pure (.pointer (some a'))):=fun b=>by
  cases b
  ·exact .pure (VR.ptr d)
  ·exact SR.new (.view t k d) fun m q=>.pure (VR.ptr ⟨.inr ⟨rfl,rfl⟩,rfl,rfl⟩)
 cases e with
 |none=>exact fin _
 |some c=>exact fin _
theorem Sr{t:aK}(y:uC t){a a'}(h:AR ρ a a')(j:K a.block):SR P VR ρ K (yE t a) (yE t a'):=by
 unfold yE;refine SR.then (jN t) fun F L n z g i f=>?_;obtain rfl:z=n:=f;refine SR.then (adw (h.mono g) (i _ j) t 1) fun I M b o r v w=>?_;obtain rfl:o=b:=w;have d:=(h.mono g).mono r;split
 ·exact .pure (VR.ptr d)
 ·refine .shape d.1 (fun x=>?_) (fun _=>.lost trivial) fun f=>absurd (v _ (i _ j)) f;obtain⟨e,c⟩:=x;simp only[cA];refine SR.then fB fun G A p D s _ k=>?_;rw[k.1,k.2];refine SR.then fB fun H B q E u _ l=>?_;rw[l.1,l.2];split
  ·exact .lost trivial
  ·exact SR.new (.view t y ((d.mono s).mono u)) fun m C=>.pure (VR.ptr ⟨.inr ⟨rfl,rfl⟩,rfl,rfl⟩)
theorem adt{x x'}(h:VR ρ x x'){d e:aK}(n:P.underlying d=some (.pointer e))(k:uC e)(ats):SR P VR ρ K (BG ats d #[x]) (BG ats d #[x']):=by
 unfold BG;cases h with
 |fJ l c=>exact .pure .gi
 |@slice a f l c i=>
  show SR P VR ρ K (if c≠0 then pure (Ab (some a))else(viewAt a.block).bind fun y=>if y.isSome=true then pure (Ab (some a))else do pure (aF (<-Af (.view a (<-elemOf d)))))
   (if c≠0 then pure (Ab (some f))else(viewAt f.block).bind fun y=>if y.isSome=true then pure (Ab (some f))else do pure (aF (<-Af (.view f (<-elemOf d)))))
  split
  ·exact .pure (VR.ptr i)
  ·refine SR.view i.1 ?_ fun _ _ _ _=>?_
   ·simp;refine SR.then (Q:=fun _ y j=>y=e/\j=e) ?_ fun p L y j g _ b=>?_
    ·unfold elemOf;refine SR.then (aT n) fun _ _ y j _ _ b=>?_;rw[b.1,b.2];exact .pure ⟨rfl,rfl⟩
    ·rw[b.1,b.2];exact SR.new (.view e k (i.mono g)) fun m o=>.pure (VR.ptr ⟨.inr ⟨rfl,rfl⟩,rfl,rfl⟩)
   ·simp;exact .pure (VR.ptr i)
 |_=>exact .lost aq
theorem acY{x x'}(h:bf ρ x x')(d:x.size=1):SR P VR ρ K (FU x) (FU x'):=by obtain⟨a,b,rfl,rfl,c⟩:=xp h d;exact .pure c
theorem Xx(n t):∀(acc:Array au),bf ρ acc acc->bf ρ (Uh n t acc) (Uh n t acc):=by
 induction n generalizing t with
 |zero=>exact fun _ h=>h
 |succ n c=>
  intro acc h;refine c _ _ ⟨rfl,fun i v d a b=>?_⟩;rw[a]at b;cases b;rw[eN]at a;split at a
  ·cases a;exact .int _ _
  ·exact h.2 i v v a a
theorem acP(ps rs){x x'}(h:bf ρ x x')(s:x.size=1):SR P VR ρ K (xF ps rs x) (xF ps rs x'):=by
 have one:∀{a b:au},VR ρ a b->SR P VR ρ K (xF ps rs #[a]) (xF ps rs #[b]):=fun{a b} f=>by
  cases f with
  |int k n=>
   cases k
   case i64=>
    unfold xF;dsimp only;split
    ·rename_i t _;refine SR.then (Bn t) fun C L d w g _ r=>?_;obtain⟨rfl,_⟩:=r;split
     ·rename_i e _;split
      ·exact tL _ _ _
      ·refine SR.then (vA _) fun _ _ c l y _ q=>?_;obtain rfl:l=c:=q;refine SR.then (Fe _) fun _ _ _ _ z _ _=>?_;refine SR.then (vA _) fun _ _ b j A _ p=>?_;obtain rfl:j=b:=p;refine SR.then (vB e (Xx _ _ #[] ⟨rfl,fun i v B m _=>by simp at m⟩)) fun _ _ a u _ _ o=>?_;exact .pure (VR.slice _ _ o)
     ·exact .lost aq
    ·exact .lost aq
   all_goals exact .lost aq
  |_=>exact .lost aq
 obtain⟨a,b,rfl,rfl,f⟩:=xp h s;exact one f
theorem OB{fn}(d:fn.name= "internal/abi.NoEscape")(e:fn.origin= ""):FY fn=none/\FW fn=some FU:=by have a1:(FV.lookup "internal/abi.NoEscape").isNone=true:=aI;have a:(FV.lookup "").isNone=true:=aI;have a3:(Uj.lookup "internal/abi.NoEscape").isNone=true:=aI;have b:(Uk.lookup "internal/abi.NoEscape").isNone=true:=aI;have c:Extern.allRows.lookup "internal/abi.NoEscape" =some FU:=aI;rw[xW]at a1 a a3 b;unfold FY FW;rw[d,e];simp only[a1,a,a3,b,c];exact⟨rfl,rfl⟩
theorem Yn{fn}(c:fn.name= "internal/bytealg.MakeNoZero")(d:fn.origin= ""):FY fn=none/\FW fn=some (xF fn.params fn.resultTypes):=by have a1:(FV.lookup "internal/bytealg.MakeNoZero").isNone=true:=aI;have a:(FV.lookup "").isNone=true:=aI;have a3:(Uj.lookup "internal/bytealg.MakeNoZero").isNone=true:=aI;have b:Uk.lookup "internal/bytealg.MakeNoZero" =some xF:=aI;rw[xW]at a1 a a3;unfold FY FW;rw[c,d];simp only[a1,a,a3,b];exact⟨rfl,rfl⟩
def yI(P:aN)(f:bh):Bool:=match P.funcs[f]? with
 |some a=>a.body.isNone&&a.origin== "" &&(a.name== "internal/abi.NoEscape" ||a.name== "internal/bytealg.MakeNoZero")
 |none=>false
theorem abR{f}(h:yI P f=true){x x'}(o:bf ρ x x')(l:x.size=1):SR P NR ρ K (callFunc f x) (callFunc f x'):=by
 unfold yI at h;split at h
 ·rename_i i n;simp at h;obtain⟨⟨j,k⟩,h3⟩:=h;unfold callFunc;refine SR.then fB fun p L a b g _ h=>?_;rw[h.1,h.2,n];dsimp only;have m:=o.mono g;rcases h3 with h3|h3
  ·have c:(i.name== "runtime.NumGoroutine")=false:=by rw[h3];decide
   obtain⟨d,e⟩:=OB h3 k;rw[c,j];simp only[eA,dy,cD,d,e];exact SR.ext (dD (acY m l))
  ·have c:(i.name== "runtime.NumGoroutine")=false:=by rw[h3];decide
   obtain⟨d,e⟩:=Yn h3 k;rw[c,j];simp only[eA,dy,cD,d,e];exact SR.ext (dD (acP _ _ m l))
 ·cases h
end
end
section
def JN:au->Bool
 |.bool _|.int _ _|.string _|.pointer none|.slice none _ _|.map none|.chan none|.nilFunc|.nilIface=>true
 |_=>false
def cE(l:List bh):mh->Bool
 |.tmp _=>true
 |.const v=>JN v
 |.global _=>false
 |.func f=>l.contains f
def mD(P:aN)(t:aK):Bool:=match P.underlying t with|some (.slice _)=>true|_=>false
def tC(P:aN)(t:aK):Bool:=match P.underlying t with|some .string=>true|_=>false
def yO(P:aN)(t:aK):Bool:=match P.underlying t with
 |some (.int _)=>(match P.info? t with|some i=>(match i.desc with|.named n _=>n != "sync.copyChecker" |_=>true)|none=>false)
 |_=>false
def Jg(P:aN)(t:aK):Bool:=match P.underlying t with
 |some (.slice e)=>(match P.underlying e with|some (.int .u8)=>true|_=>false)
 |_=>false
def AO(P:aN)(t:aK):Bool:=match P.underlying t with|some (.map k _)=>yO P k|_=>false
def Jj(P:aN)(t:aK):Bool:=match P.underlying t with|some (.struct _)=>true|_=>false
def Ji(P:aN)(t:aK):Bool:=match P.underlying t with|some (.interface _)=>true|_=>false
def Ih(P:aN)(t:aK)(n:Nat):Bool:=match P.underlying t with
 |some (.struct a)=>(match a[n]? with|some f=>(match P.info? f.type with|some i=>i.size !=0|none=>false)|none=>false)
 |_=>false
def NH(P:aN)(s d:aK):Bool:=(match P.underlying s,P.underlying d with|some (.int _),some (.int _)=>true|_,_=>false)||(Jg P s&&tC P d)
def Hr(P:aN)(t:aK):Bool:=match P.underlying t with|some (.interface _)=>false|some _=>true|none=>false
def Hh(P:aN)(b:Builtin)(a:Array aK):Bool:=match b,a.toList with
 |.append,[t,u]=>mD P t&&(mD P u||tC P u)
 |.close,_=>true
 |.copy,[t,_]=>mD P t
 |.len,[t]=>mD P t||tC P t
 |.min,a=>a.length==2||a.length==3
 |.cap,[t]=>mD P t
 |.clear,[t]=>mD P t
 |.delete,[t,_]=>AO P t
 |.recover,_=>true
 |.unsafeString,[_,_]=>true
 |_,_=>false
def Nx(P:aN)(l:List bh)(c:Call):Bool:=c.args.all (cE l)&&(match c.callee with
 |.value f=>cE l f
 |.builtin b=>Hh P b c.argTypes&&c.args.size==Nr b c.argTypes
 |.invoke r name=>cE l r&&QG P l name)
def Nz(l:List bh)(c:Call):Bool:=c.args.all (cE l)&&(match c.callee with
 |.value f=>cE l f
 |_=>false)
def Ev(l:List bh):Option mh->Bool
 |none=>true
 |some x=>cE l x
def Ec(P:aN)(t:aK):Bool:=match P.underlying t with|some (.pointer _)=>true|_=>false
def Je(P:aN)(t:aK):Bool:=match P.underlying t with|some (.array _ _)=>true|_=>false
def Jf(P:aN)(t:aK):Bool:=match P.underlying t with|some .bool=>true|_=>false
def Jh(P:aN)(t:aK):Bool:=match P.underlying t with|some (.chan _ _)=>true|_=>false
def eqB:BinOp->Bool
 |.eql|.neq=>true
 |_=>false
def QW(P:aN)(op:BinOp)(t:aK):mh->Bool
 |.const .nilIface=>Ji P t
 |.const (.pointer none)=>Ec P t&&eqB op
 |.const (.slice none _ _)=>mD P t&&eqB op
 |_=>false
def okB(P:aN)(l:List bh)(o:Op):Bool:=match o with
 |.move x|.assign x=>cE l x
 |.pick c a b=>cE l c&&cE l a&&cE l b
 |.alloc _=>true
 |.box _ x=>cE l x
 |.build t h=>Jj P t&&h.all fun p=>cE l p.2
 |.buildSlice t _ h=>mD P t&&h.all fun p=>cE l p.2
 |.load _ a=>cE l a
 |.store _ a x=>cE l a&&cE l x
 |.nilCheck x=>cE l x
 |.binOp op t x y _=>cE l x&&cE l y&&(yO P t||tC P t||(Jf P t&&eqB op)||(Ec P t&&eqB op)||QW P op t y)
 |.unOp .not _ x=>cE l x
 |.unOp .neg _ x=>cE l x
 |.makeMap _ none=>true
 |.makeChan t x=>Jh P t&&cE l x
 |.slice t x g (some e) (some j)=>mD P t&&cE l x&&Ev l g&&cE l e&&cE l j
 |.convert s d x=>NH P s d&&cE l x
 |.makeInterface _ x=>cE l x
 |.makeFunc (.func f) q r=>l.contains f&&q.all (cE l)&&r.all (cE l)
 |.makeSlice t a b=>mD P t&&cE l a&&cE l b
 |.slice t x g e none=>(mD P t||tC P t||Je P t)&&cE l x&&Ev l g&&Ev l e
 |.fieldAddr t x n=>Ih P t n&&cE l x
 |.indexAddr t x i=>mD P t&&cE l x&&cE l i
 |.index t x i=>tC P t&&cE l x&&cE l i
 |.lookup t x i _=>AO P t&&cE l x&&cE l i
 |.mapUpdate t m k x=>AO P t&&cE l m&&cE l k&&cE l x
 |.typeAssert x _ t true=>Hr P t&&cE l x
 |.extract x _=>cE l x
 |.call c=>Nx P l c
 |.defer c=>Nz l c
 |.panic x=>cE l x
 |.select cs bl=>!bl&&(match cs.toList with|[s]=>s.send.isNone&&cE l s.chan|_=>false)
 |_=>false
abbrev YD(l:List bh)(c:Code->Prop)(k:bh->Prop)(d:Nat)(t:Nat->Option Obj)(P:aN):aA:=⟨fun f=>l.contains f=true,c,k,d,t,P⟩
theorem om{P}{t:aK}(h:mD P t=true):∃e,P.underlying t=some (.slice e):=by
 unfold mD at h;split at h
 ·rename_i e a;exact⟨e,a⟩
 ·cases h
theorem xl{P}{t:aK}(h:tC P t=true):P.underlying t=some .string:=by
 unfold tC at h;split at h
 ·assumption
 ·cases h
theorem Ea{P}{t:aK}(h:yO P t=true):∃a i,P.underlying t=some (.int a)/\P.info? t=some i/\∀u,i.desc≠.named "sync.copyChecker" u:=by
 unfold yO at h;split at h
 ·rename_i a d;split at h
  ·rename_i i b;refine⟨a,i,d,b,fun u c=>?_⟩;rw[c]at h;simp at h
  ·cases h
 ·cases h
theorem Ww{P}{t:aK}(h:Jg P t=true):∃e,P.underlying t=some (.slice e)/\P.underlying e=some (.int .u8):=by
 unfold Jg at h;split at h
 ·rename_i e a;split at h
  ·exact⟨e,a,by assumption⟩
  ·cases h
 ·cases h
theorem Jp{P}{t:aK}(h:AO P t=true):∃k e,P.underlying t=some (.map k e)/\yO P k=true:=by
 unfold AO at h;split at h
 ·rename_i k e a;exact⟨k,e,a,h⟩
 ·cases h
theorem adI{P}{t:aK}(h:Jj P t=true):∃a,P.underlying t=some (.struct a):=by
 unfold Jj at h;split at h
 ·rename_i e b;exact⟨e,b⟩
 ·cases h
theorem j5{P}{t:aK}(h:Ji P t=true):∃m,P.underlying t=some (.interface m):=by
 unfold Ji at h;split at h
 ·rename_i e a;exact⟨e,a⟩
 ·cases h
theorem Xa{P}{t:aK}(h:Hr P t=true):∃d,P.underlying t=some d/\∀m,d≠.interface m:=by
 unfold Hr at h;split at h
 ·cases h
 ·rename_i d a b;exact⟨d,b,fun m hm=>a m (by rw[<-hm])⟩
 ·cases h
theorem Rt{P}{t:aK}(h:Ec P t=true):∃e,P.underlying t=some (.pointer e):=by
 unfold Ec at h;split at h
 ·rename_i e a;exact⟨e,a⟩
 ·cases h
theorem VY{P}{t:aK}(h:Je P t=true):∃n e,P.underlying t=some (.array n e):=by
 unfold Je at h;split at h
 ·rename_i n e a;exact⟨n,e,a⟩
 ·cases h
theorem Wq{P}{t:aK}(h:Jf P t=true):P.underlying t=some .bool:=by
 unfold Jf at h;split at h
 ·assumption
 ·cases h
theorem WJ{P}{t:aK}(h:Jh P t=true):∃d e,P.underlying t=some (.chan d e):=by
 unfold Jh at h;split at h
 ·rename_i d e a;exact⟨d,e,a⟩
 ·cases h
theorem Dz{op}(h:eqB op=true):op=.eql\/op=.neq:=by cases op<;>first|exact .inl rfl|exact .inr rfl|cases h
theorem Yh{P}{t:aK}{n}(h:Ih P t n=true):∃a f i,P.underlying t=some (.struct a)/\a[n]? =some f/\P.info? f.type=some i/\i.size≠0:=by
 unfold Ih at h;split at h
 ·rename_i a c;split at h
  ·rename_i f b;split at h
   ·rename_i i d;exact⟨a,f,i,c,b,d,by simpa using h⟩
   ·cases h
  ·cases h
 ·cases h
theorem Wp{P b c}(h:Hh P b c=true):nG P b c:=by
 rcases c with⟨c⟩;unfold Hh at h;dsimp only at h;split at h
 ·simp at h;obtain⟨e,a⟩:=om h.1;rcases h.2 with h2|h2
  ·obtain⟨d,l⟩:=om h2;exact .append a l (.inr ⟨d,rfl⟩)
  ·exact .append a (xl h2) (.inl rfl)
 ·exact .close _
 ·obtain⟨e,a⟩:=om h;exact .copy a
 ·rw[pS]at h;rcases h with h|h
  ·obtain⟨e,a⟩:=om h;exact .Qv a
  ·exact .Qw (xl h)
 ·refine .min _ ?_;simpa[pS,vV]using h
 ·obtain⟨e,a⟩:=om h;exact .cap a
 ·obtain⟨e,a⟩:=om h;exact .clear a
 ·obtain⟨k,e,f,h2⟩:=Jp h;obtain⟨n,m,g,i,j⟩:=Ea h2;exact .delete g i j f
 ·exact .recover _
 ·exact .unsafeString _ _
 ·cases h
variable [aA]
def Reads(l:List bh)(ρ:Ren)(a b:mh->au):Prop:=∀x,cE l x=true->VR ρ (a x) (b x)
theorem Rp{v}(h:JN v=true)(ρ):VR ρ v v:=by
 unfold JN at h;split at h
 ·exact .bool _
 ·exact .int _ _
 ·exact .string _
 ·exact .gi
 ·exact .fJ _ _
 ·exact .lS
 ·exact .mW
 ·exact .nilFunc
 ·exact .nilIface
 ·cases h
theorem Reads.args{l ρ}{d e:mh->au}(h:Reads l ρ d e){xs:Array mh}(c:xs.all (cE l)=true):bf ρ (xs.map d) (xs.map e):=by
 refine⟨aq,fun i v f hv b=>?_⟩;rw[fj]at hv b;cases a:xs[i]? with
 |none=>rw[a]at hv;cases hv
 |some x=>
  rw[a]at hv b;cases hv;cases b;refine h x ?_;rw[pQ]at c;exact c x (lC a)
theorem Reads.parts{l ρ}{c d:mh->au}(h:Reads l ρ c d){ps:Array (Nat×mh)}(a:(ps.all fun p=>cE l p.2)=true):rj ρ (ps.map fun(i,x)=>(i,c x)).toList (ps.map fun(i,x)=>(i,d x)).toList:=by
 rw[pQ]at a;rcases ps with⟨ps⟩;simp;have b:∀p∈ps,cE l p.2=true:=fun p g=>a p (by grind);clear a;unfold rj;induction ps with
 |nil=>exact .nil
 |cons p ps f=>exact .cons ⟨rfl,h _ (b p aq)⟩ (f fun q e=>b q (by simp[e]))
theorem Reads.opt{l ρ η iR}(h:Reads l ρ η iR){x}(a:Ev l x=true):VO ρ (x.map η) (x.map iR):=by
 cases x with
 |none=>trivial
 |some x=>exact h x a
end
section
variable [aA]
section
variable {P:aN} {ρ:Ren} {K:Kn} {l:List bh} {η iR:mh->au}
theorem abL{t:aK}(op:BinOp){x y}(f:yO P t=true\/tC P t=true)(b:VR ρ (η x) (iR x))(c:VR ρ (η y) (iR y)):SR P VR ρ K (do vX op t x y (η x) (η y);eG op t (η x) (η y)) (do vX op t x y (iR x) (iR y);eG op t (iR x) (iR y)):=by
 rcases f with h|h
 ·obtain⟨j,i,a,d,e⟩:=Ea h;exact SR.then (zh op a trivial x y b c) fun _ _ _ _ g _ _=>abJ op a d e (b.mono g) (c.mono g)
 ·have a:=xl h;exact SR.then (zh op a trivial x y b c) fun _ _ _ _ g _ _=>abM op a (b.mono g) (c.mono g)
theorem abY{s:SelectCase}(i:mw P)(h:s.send=none)(hc:VR ρ (η s.chan) (iR s.chan)):SR P NR ρ K (do
   let cases <-#[s].mapM fun s=>do pure {chan:=η s.chan,send:=s.send.map η,zero:=<-zeroValue s.elem:CommCase}
   pure (.comm cases false .select)) (do
   let cases <-#[s].mapM fun s=>do pure {chan:=iR s.chan,send:=s.send.map iR,zero:=<-zeroValue s.elem:CommCase}
   pure (.comm cases false .select)):=by
 refine SR.then (Q:=fun f y e=>∃c d,y=#[c]/\e=#[d]/\CR f c d) ?_ fun _ _ y e _ _ k=>?_
 ·rw[zE,zE];refine Fl _ _ (Q:=fun f y e=>∃c d,y=[c]/\e=[d]/\CR f c d) ?_ fun _ a b _ j=>?_
  ·simp only[vP,BU];refine SR.then (Q:=CR) ?_ fun _ _ c d _ _ hc=>?_
   ·refine SR.then (xj i s.elem) fun _ _ z n g _ m=>?_;exact .pure ⟨hc.mono g,by simp[h],by simp[h],m⟩
   ·exact .pure ⟨c,d,rfl,rfl,hc⟩
  ·obtain⟨c,d,rfl,rfl,hc⟩:=j;exact⟨c,d,rfl,rfl,hc⟩
 ·obtain⟨c,d,rfl,rfl,hc⟩:=k;exact .pure (.comm hc)
theorem Fg(z:mw P)(hF:yw P)(N:∀f,l.contains f=true->aA.ok f)(hR:Reads l ρ η iR)(V:∀F:mh->au,F=η->∀v,F (.const v)=v)(W:∀F:mh->au,F=iR->∀v,F (.const v)=v){o:Oper}(j:okB P l o.op=true):SR P NR ρ K (execOp η o) (execOp iR o):=by
 obtain⟨R,op,ty,pos,O,U⟩:=o;have B:∀{α:Prop},okB P l op=false->α:=fun h=>by grind
 replace j:=j
 unfold execOp;cases op with
 |move x=>exact .pure (.value (hR x j))
 |assign x=>exact .pure (.value (hR x j))
 |pick c a b=>
  simp only[okB,cm]at j;exact adf (hR _ j.1.1) (hR _ j.1.2) (hR _ j.2)
 |alloc t=>exact dD (abE z t)
 |box t x=>exact dD (abN (hR x j) t)
 |build t ps=>
  simp only[okB,cm]at j;obtain⟨T,Y⟩:=adI j.1;exact dD (abO z Y (hR.parts j.2))
 |buildSlice t n ps=>
  simp only[okB,cm]at j;obtain⟨e,q⟩:=om j.1;exact dD (abP z q n (hR.parts j.2))
 |load t a=>exact dD (acH (hR a j) t)
 |store t a x=>
  simp only[okB,cm]at j;exact SS (adn (hR _ j.1) (hR _ j.2) t)
 |nilCheck x=>exact acX (hR x j) (op:=⟨R,.nilCheck x,ty,pos,O,U⟩) rfl rfl rfl
 |binOp op t x y yt=>
  simp only[okB,cm,pS]at j;obtain⟨⟨w,A⟩,h⟩:=j;rcases h with((h|h)|h)|h
  ·exact dD (abL op h (hR _ w) (hR _ A))
  ·have E:=Wq h.1;exact dD (SR.then (zh op E trivial x y (hR _ w) (hR _ A)) fun _ _ _ _ g _ _=>Ss (Dz h.2) ((hR _ w).mono g) ((hR _ A).mono g) (ack E ((hR _ w).mono g) ((hR _ A).mono g)))
  ·obtain⟨e,E⟩:=Rt h.1;exact dD (SR.then (zh op E trivial x y (hR _ w) (hR _ A)) fun _ _ _ _ g _ _=>Ss (Dz h.2) ((hR _ w).mono g) ((hR _ A).mono g) (acn E ((hR _ w).mono g) ((hR _ A).mono g)))
  ·have p:=hR x w;have I:=V η rfl;have J:=W iR rfl;have az:=hR y A;dsimp only;unfold QW at h;split at h
   ·obtain⟨m,hm⟩:=j5 h;rw[I,J];exact dD (SR.then (acj op t x p) fun _ _ _ _ g _ _=>abK op hm (p.mono g))
   ·simp only[cm]at h;obtain⟨e,q⟩:=Rt h.1;rw[I,J];exact dD (SR.then (zh op q trivial x _ p .gi) fun _ _ _ _ g _ _=>Su (Dz h.2) (.inl rfl) (p.mono g) (aco q (p.mono g)))
   ·simp only[cm]at h;obtain⟨e,q⟩:=om h.1;rw[I,J];exact dD (SR.then (zh op q trivial x _ p (.fJ _ _)) fun _ _ _ _ g _ _=>Su (Dz h.2) (.inr ⟨_,_,rfl⟩) (p.mono g) (acp q _ _ (p.mono g)))
   ·cases h
 |unOp op t x=>
  cases op
  case not=>exact dD (acZ (hR x j))
  case neg=>exact dD (acW (hR x j))
  all_goals exact B rfl
 |convert s d x=>
  simp only[okB,NH,cm,pS]at j;rcases j.1 with h|h
  ·split at h
   ·rename_i p u;exact dD (ace p u (hR x j.2))
   ·cases h
  ·obtain⟨e,q,Z⟩:=Ww h.1;exact dD (acd q (xl h.2) Z (hR x j.2))
 |makeInterface t x=>exact dD (acN (hR x j) t)
 |makeFunc S xs ys=>
  cases S
  case func f=>
   simp only[okB,cm]at j;exact dD (acM (.func f (N f j.1.1)) (hR.args j.1.2) (hR.args j.2))
  all_goals exact B rfl
 |makeSlice t a b=>
  simp only[okB,cm]at j;obtain⟨e,q⟩:=om j.1.1;exact dD (acQ z q (hR _ j.1.2) (hR _ j.2))
 |slice t x lo M mx=>
  cases mx with
  |some m=>
   cases M with
   |none=>exact B rfl
   |some M=>
    simp only[okB,cm]at j;obtain⟨e,q⟩:=om j.1.1.1.1;exact dD (adi (hR _ j.1.1.1.2) (hR.opt j.1.1.2) (hR _ j.1.2) (hR _ j.2) q)
  |none=>
   simp only[okB,cm,pS]at j;have w:=hR _ j.1.1.2;have p:=hR.opt j.1.2;have u:=hR.opt j.2;rcases j.1.1.1 with(h|h)|h
   ·obtain⟨e,q⟩:=om h;exact dD (SM q aq fun σ L g=>adk (w.mono g) (p.mono g) (u.mono g) q)
   ·exact dD (SM (xl h) aq fun σ L g=>adl (w.mono g) (p.mono g) (u.mono g) (xl h))
   ·obtain⟨n,e,q⟩:=VY h;exact dD (adj w p u q)
 |makeMap t r=>
  cases r with
  |none=>exact dD (acO t)
  |some r=>exact B rfl
 |makeChan t x=>
  simp only[okB,cm]at j;obtain⟨d,e,q⟩:=WJ j.1;exact dD (acL q (hR _ j.2))
 |fieldAddr t x n=>
  simp only[okB,cm]at j;obtain⟨T,f,i,p,u,C,D⟩:=Yh j.1;exact dD (acu (hR _ j.2) p u C D)
 |indexAddr t x i=>
  simp only[okB,cm]at j;obtain⟨e,q⟩:=om j.1.1;exact dD (acw (hR _ j.1.2) (hR _ j.2) q)
 |index t x i=>
  simp only[okB,cm]at j;exact dD (acy (hR _ j.1.2) (hR _ j.2) (xl j.1.1))
 |lookup t x i ok=>
  simp only[okB,cm]at j;obtain⟨k,e,p,u⟩:=Jp j.1.1;obtain⟨κ,ki,C,D,H⟩:=Ea u;exact dD (acK C D H z p (hR _ j.1.2) (hR _ j.2) ok)
 |mapUpdate t m k x=>
  simp only[okB,cm]at j;obtain⟨kt,e,p,u⟩:=Jp j.1.1.1;obtain⟨κ,ki,C,D,H⟩:=Ea u;exact SS (acS C D H p (hR _ j.1.1.2) (hR _ j.1.2) (hR _ j.2))
 |typeAssert x xt t ok=>
  cases ok with
  |false=>exact B rfl
  |true=>
   simp only[okB,cm]at j;obtain⟨d,p,u⟩:=Xa j.1;exact dD (adr z (hR _ j.2) p u)
 |extract x n=>exact dD (acs (hR x j) n)
 |call c=>
  obtain⟨G,args,Q⟩:=c;simp only[okB,Nx,cm]at j;cases G with
  |value f=>exact Sy hF (hR f j.2) (hR.args j.1)
  |builtin b=>
   simp only[cm,vV]at j;exact abQ z (Wp j.2.1) _ _ (hR.args j.1) (by grind)
  |invoke r m=>
   simp only[cm]at j;show SR P NR ρ K (invoke (.fn (.method m) #[]) (#[η r]++args.map η)) (invoke (.fn (.method m) #[]) (#[iR r]++args.map iR));exact acC hF (F8 N j.2.2) (hR _ j.2.1) (hR.args j.1)
 |defer c=>
  obtain⟨G,args,Q⟩:=c;simp only[okB,Nz,cm]at j;cases G with
  |value f=>exact SR.then (SK (hR f j.2) (hR.args j.1)) fun _ _ _ _ _ _ X=>.pure (.defer X)
  |builtin b=>cases j.2
  |invoke r m=>cases j.2
 |panic x=>exact dD (ada (hR x j))
 |select cs bl=>
  cases bl with
  |true=>exact B rfl
  |false=>
   rcases cs with⟨cs⟩
   match cs,j with
   |[s],j=>
    have j:(s.send.isNone&&cE l s.chan)=true:=j;simp only[cm,xW]at j;exact abY z j.1 (hR _ j.2)
 |_=>exact B rfl
end
end
section
variable [aA] {S:Nat->Prop}
abbrev Whole(S:Nat->Prop)(ρ:Ren)(w:an):Prop:=(∀a b,ρ a b->(¬S b/\∃o,w.heap[a]? =some o/\o≠bG)\/(S b/\w.heap[a]? =some bG))/\∀b,S b->∃a,ρ a b
theorem Whole.all{ρ w}(h:Whole S ρ w):∀a b,ρ a b->(¬S b/\∃o,w.heap[a]? =some o/\o≠bG)\/(S b/\w.heap[a]? =some bG):=h.1
theorem Whole.has{ρ w}(h:Whole S ρ w):∀b,S b->∃a,ρ a b:=h.2
theorem Whole.own{ρ w}(h:Whole S ρ w){a b}(d:ρ a b){o}(f:w.heap[a]? =some o)(e:o≠bG):¬S b:=by
 rcases h.all a b d with c|⟨_,c⟩
 ·exact c.1
 ·rw[f]at c;cases c;exact absurd rfl e
def gy(S:Nat->Prop)(ρ:Ren)(e:kM):Prop:=match e.loc with
 |.cell a=>∃x,ρ x a.block/\¬S a.block
 |.obj r=>∃x,ρ x r/\¬S r
 |.mark .noRoom=>True
 |.mark (.extern _)=>True
 |.output=>True
 |_=>False
theorem gy.mono{ρ σ}(h:ρ.le σ){e}(k:gy S ρ e):gy S σ e:=by
 unfold gy at k⊢;split
 ·rename_i a;rw[a]at k;exact k.imp fun x b=>⟨h _ _ b.1,b.2⟩
 ·rename_i a;rw[a]at k;exact k.imp fun x b=>⟨h _ _ b.1,b.2⟩
 ·trivial
 ·trivial
 ·trivial
 ·rename_i c d f g i;split at k
  ·rename_i a;exact c _ a
  ·rename_i a;exact d _ a
  ·rename_i a;exact f a
  ·rename_i a;exact g _ a
  ·rename_i a;exact i a
  ·exact k
def fK(S:Nat->Prop)(ρ:Ren)(es a:Array kM):Prop:=∃x,a=es++x/\∀e∈x,gy S ρ e
theorem fK.refl{ρ}(es):fK S ρ es es:=⟨#[],aq,aq⟩
theorem fK.push{ρ es e}(h:gy S ρ e):fK S ρ es (es.push e):=⟨#[e],aq,by simp;exact h⟩
theorem fK.cell{ρ es x a u v}(h:ρ x a.block)(b:¬S a.block):fK S ρ es (es.push ⟨.cell a,u,v⟩):=.push ⟨x,h,b⟩
theorem fK.obj{ρ es x r u v}(h:ρ x r)(a:¬S r):fK S ρ es (es.push ⟨.obj r,u,v⟩):=.push ⟨x,h,a⟩
theorem fK.room{ρ es u v}:fK S ρ es (es.push ⟨.mark .noRoom,u,v⟩):=.push trivial
theorem fK.ext{ρ es f u v}:fK S ρ es (es.push ⟨.mark (.extern f),u,v⟩):=.push trivial
theorem fK.many{ρ es}{x b:Nat}{t:List eV}{u v:Bool}(h:ρ x b)(c:¬S b)(d:∀y∈t,y.block=b):fK S ρ es (es++t.toArray.map (⟨.cell ·,u,v⟩)):=⟨_,rfl,fun e a=>by obtain⟨y,f,rfl⟩:=mK.1 a;have:=d y (by simpa using f);exact⟨x,by rw[this];exact h,by rw[this];exact c⟩⟩
theorem fK.out{ρ es u v}:fK S ρ es (es.push ⟨.output,u,v⟩):=.push trivial
theorem fK.trans{ρ σ}(g:ρ.le σ){a b c}(h:fK S ρ a b)(k:fK S σ b c):fK S σ a c:=by
 obtain⟨x,rfl,f⟩:=h;obtain⟨y,rfl,i⟩:=k;refine⟨x++y,aq,fun e d=>?_⟩;rcases tP.1 d with h|h
 ·exact(f e h).mono g
 ·exact i e h
def cz{α j:Type}(S:Nat->Prop)(p:aN)(Q:Ren->α->j->Prop)(ρ:Ren)(w w':an)(f:Array kM)(r:yc α)(g:yc j×Array kM):Prop:=
 match r with
  |.ok a d=>∃c b e x,g=(.ok b e,x)/\Q c a b/\bO p ρ c w d w' e/\Whole S c d/\fK S c f x
  |.halt (.panic v) d=>∃c i e x,g=(.halt (.panic i) e,x)/\VR c v i/\bO p ρ c w d w' e/\Whole S c d/\fK S c f x
  |.halt h _=>jT h
def Vw{α c:Type}(S:Nat->Prop)(p:aN)(Q:Ren->α->c->Prop)(ρ:Ren)(K:Kn)(s:Sem α)(d:Sem c):Prop:=
 ∀w a b,WR p ρ w a->Own K w->Whole S ρ w->cz S p Q ρ w a b (s.run p w) (d.runT p a b)
theorem cz.lost{α d:Type}{p Q ρ}{w w':an}{b:Array kM}{c:yc d×Array kM}{h:Halt}(a:jT h)(w1):cz S p Q ρ w w' b (.halt h w1:yc α) c:=by unfold cz;cases h<;>first|exact a|exact a.elim
theorem cz.step{α u:Type}{p Q ρ σ}{w w1 w' g:an}{d f:Array kM}{s s1:Sem α}{q s1':Sem u}(hm:bO p ρ σ w w1 w' g)(o:fK S σ d f)(e:s.run p w=s1.run p w1)(r:q.runT p w' d=s1'.runT p g f)(h:cz S p Q σ w1 g f (s1.run p w1) (s1'.runT p g f)):cz S p Q ρ w w' d (s.run p w) (q.runT p w' d):=by
 rw[e,r];revert h;unfold cz;cases s1.run p w1 with
 |ok a t=>rintro⟨n,b,m,x,i,j,c,k,l⟩;exact⟨n,b,m,x,i,j,hm.trans c,k,o.trans c.le l⟩
 |halt h t=>
  cases h with
  |panic v=>rintro⟨n,b,m,x,i,j,c,k,l⟩;exact⟨n,b,m,x,i,j,hm.trans c,k,o.trans c.le l⟩
  |_=>intro h;exact h
theorem Whole.set{ρ w}(h:Whole S ρ w)(a v):Whole S ρ (w.setCell a v):=⟨fun x y d=>by
 rcases h.all x y d with⟨b,c⟩|⟨b,c⟩
 ·exact .inl ⟨b,Own.set (K:=(·=x)) (fun r hr=>by(obtain rfl:r=x:=hr;exact c)) a v x rfl⟩
 ·refine .inr ⟨b,?_⟩;simp only[World.setCell,kJ,c];split<;>rfl,h.has⟩
theorem Whole.freeze{ρ w}(h:Whole S ρ w)(a n):Whole S ρ (w.freeze a n):=⟨fun x y d=>by
 rcases h.all x y d with⟨c,b⟩|⟨c,b⟩
 ·exact .inl ⟨c,Own.freeze (K:=(·=x)) (fun r hr=>by(obtain rfl:r=x:=hr;exact b)) a n x rfl⟩
 ·refine .inr ⟨c,?_⟩;unfold yf;split
  ·exact b
  ·simp only[kJ,b];split<;>rfl,h.has⟩
theorem Whole.put{ρ w}(h:Whole S ρ w){r}(e:∃x,w.heap[r]? =some x/\x≠bG){o}(c:o≠bG):Whole S ρ {w with heap:=w.heap.setIfInBounds r o}:=⟨fun x y g=>by
 rcases h.all x y g with⟨b,a⟩|⟨b,a⟩
 ·exact .inl ⟨b,Own.put (K:=(·=x)) (fun r hr=>by(obtain rfl:r=x:=hr;exact a)) r c x rfl⟩
 ·refine .inr ⟨b,?_⟩
  have f:x≠r:=by rintro rfl;obtain⟨q,d,c⟩:=e;rw[a]at d;cases d;exact c rfl
  exact(dx (cW f)).trans a,h.has⟩
theorem Whole.push{ρ w w' p}(h:Whole S ρ w)(e:WR p ρ w w'){o}(g:o≠bG):Whole S (ρ.ext w.heap.size w'.heap.size) {w with heap:=w.heap.push o}:=by
 have hS:¬S w'.heap.size:=fun i=>by obtain⟨a,c⟩:=h.has _ i;have:=(e.lt _ _ c).2;omega
 refine⟨?_,fun b f=>(h.has b f).imp fun a c=>.inl c⟩;rintro a b (d|⟨rfl,rfl⟩)
 ·have j:=(e.lt _ _ d).1;rw[eN,aD ak];exact h.all a b d
 ·exact .inl ⟨hS,o,by show(w.heap.push o)[w.heap.size]? =_;simp,g⟩
theorem vC{α:Type}{p w m}{a:eV}{v:au}{k:Sem α}{es:Array kM}(b:∀x,v≠.agg x)(c:∀x,v≠.tuple x):(sF m a v k).runT p w es=(match w.cell? a with
  |some _=>if w.frozen? a then(.halt (.unsupported (.unsafePointer "a write to bytes that a string shares")) w,es)else k.runT p (w.setCell a v) (es.push ⟨.cell a,true,m==.atomic⟩)
  |none=>match w.farStore p a v (m==.atomic)with
   |.ok (w,d)=>k.runT p w (es++d.toArray.map (⟨.cell ·,true,m==.atomic⟩))
   |.error h=>(.halt h w,es)):=by
 cases v<;>first|rfl|exact absurd rfl (b _)|exact absurd rfl (c _)
theorem cG{α j:Type}{p}{f:α->Sem j}(s:Sem α):∀(w:an) (es:Array kM),(s.bind f).runT p w es=(match s.runT p w es with
  |(.ok a i,x)=>(f a).runT p i x
  |(.halt h i,x)=>(.halt h i,x)):=by
 induction s with
 |pure a=>intro w es;rfl
 |load m a k b=>
  intro w es;simp only[cA,cX];cases w.cell? a with
  |some v=>exact b v w _
  |none=>
   dsimp only;cases w.farLoad p a (m==.atomic)with
   |ok r=>exact b _ w _
   |error h=>rfl
 |store m a v k b=>
  intro w es
  by_cases g:(∃x,v=.agg x)\/∃x,v=.tuple x
  ·rcases g with⟨x,rfl⟩|⟨x,rfl⟩<;>rfl
  ·have d:(∀x,v≠.agg x)/\∀x,v≠.tuple x:=⟨fun x e=>g (.inl ⟨x,e⟩),fun x e=>g (.inr ⟨x,e⟩)⟩;rw[show(sF m a v k).bind f=sF m a v (k.bind f) from rfl,vC d.1 d.2,vC d.1 d.2];cases w.cell? a with
   |some u=>
    dsimp only;split
    ·rfl
    ·exact b _ _
   |none=>
    dsimp only;cases w.farStore p a v (m==.atomic)with
    |ok r=>exact b _ _
    |error h=>rfl
 |new o k b=>intro w es;exact b _ _ _
 |shape r k b=>intro w es;exact b _ _ _
 |freeze a n k b=>intro w es;exact b _ _
 |frozen a k b=>intro w es;exact b _ _ _
 |getObj r k b=>
  intro w es;simp only[cA,cX];cases w.heap[r]? with
  |none=>rfl
  |some o=>cases o<;>first|rfl|exact b _ _ _
 |setObj r o k b=>
  intro w es;simp only[cA,cX];cases w.heap[r]? with
  |none=>rfl
  |some o=>cases o<;>first|rfl|exact b _ _
 |choose q k b=>
  intro w es;simp only[cA,cX];split
  ·exact b _ _ _
  ·exact b _ _ _
 |sys c k b=>intro w es;exact b _ _ _
 |program k b=>intro w es;exact b _ _ _
 |mark m k b=>intro w es;exact b _ _
 |halt h=>intro w es;rfl
theorem SW{p}(w a es):(GG a).runT p w es=(.ok (qH w a) w,es):=by
 unfold GG qH;show(Sem.frozen a _).runT p w es=_;unfold cX;cases b:w.frozen? a with
 |true=>rfl
 |false=>
  show(Gs a.block _).runT p w es=_;unfold cX;cases c:w.shape? a.block with
  |none=>rfl
  |some x=>rfl
theorem AY{p:aN}(w a b es):(Cq a b).runT p w es=(.ok (rE w a b) w,es):=by
 unfold Cq;show(cA (GG a) _).runT p w es=_;rw[cG,SW];show(cA (GG b) _).runT p w es=_;rw[cG,SW];show(Gs a.block _).runT p w es=_;unfold cX;show(Gs b.block _).runT p w es=_;unfold cX;unfold rE emB;generalize qH w a=d;generalize qH w b=e;cases w.shape? a.block with
 |none=>
  cases w.shape? b.block with
  |none=>rfl
  |some y=>obtain⟨t,n⟩:=y;cases n<;>rfl
 |some x=>
  obtain⟨t,n⟩:=x;cases w.shape? b.block with
  |none=>cases n<;>rfl
  |some y=>obtain⟨f,c⟩:=y;cases n<;>cases c<;>rfl
theorem E9{p ρ w w'}(d:WR p ρ w w'){a a' b b'}(c:AR ρ a a')(g:AR ρ b b'):rE w' a' b'=rE w a b:=by
 have key:∀{a a':eV},AR ρ a a'->qH w' a'=qH w a/\emB w' a'=emB w a:=fun{a a'} c=>by
  unfold qH emB;rw[DX d c];obtain⟨o,f⟩:∃o,w.heap[a.block]? =some o:=⟨_,cw (d.lt _ _ c.1).1⟩;rcases d.obj _ _ _ c.1 f with rfl|⟨v,q,r⟩
  ·obtain⟨x,t,m,h,s,u⟩:=d.calm _ _ c.1 f;have j:w'.shape? a'.block=some (t,x.size):=by unfold gq;rw[h]
   have k:w.shape? a.block=none:=by unfold gq;rw[f];rfl
   have l:∀n,w'.frozen? {block:=a'.block,off:=n}=false:=fun n=>by have:=DX d (a:={block:=a.block,off:=n}) (a':={block:=a'.block,off:=n}) ⟨c.1,rfl,rfl⟩;rw[this];unfold World.frozen?;rw[f];rfl
   rw[j,k];refine⟨by simp only[l],?_⟩;cases i:x.size with
   |zero=>exact absurd i s
   |succ n=>rfl
  ·have e:w'.shape? a'.block=w.shape? a.block:=by
    unfold gq;rw[f,q];cases r with
    |cells t m h=>simp only[h.1]
    |_=>rfl
   rw[e];refine⟨?_,rfl⟩;cases i:w.shape? a.block with
   |none=>rfl
   |some y=>
    obtain⟨t,n⟩:=y;simp only;rw[DX d (a:={block:=a.block,off:=n}) (a':={block:=a'.block,off:=n}) ⟨c.1,rfl,rfl⟩]
 unfold rE;rw[(key c).1,(key g).1,(key c).2,(key g).2]
theorem N9{p w r o}(h:w.heap[r]? =some o)(d:∀a l,o≠.number a l){ρ}(hr:∃x,ρ x r/\¬S r)(es):∃y,(numberAt r).runT p w es=(.ok none w,y)/\fK S ρ es y:=by
 by_cases c:∃x t b,o=.cells x t b
 ·obtain⟨x,t,b,rfl⟩:=c;exact⟨es,by simp only[numberAt,shape,cX,jm,cA,gq,h,jw,xX,cD],.refl es⟩
 ·refine⟨es.push ⟨.obj r,false,o.isChan⟩,?_,.push hr⟩;cases o<;>first|exact absurd rfl (d _ _)|exact absurd ⟨_,_,_,rfl⟩ c|simp only[numberAt,shape,getObj,cX,jm,cA,gq,h,jw,uf,eA,dy]
theorem O2{p w r a l}(h:w.heap[r]? =some (.number a l)){ρ}(hr:∃x,ρ x r/\¬S r)(es):∃y,(numberAt r).runT p w es=(.ok (some (a,l)) w,y)/\fK S ρ es y:=
 ⟨es.push ⟨.obj r,false,false⟩,by simp only[numberAt,shape,getObj,cX,jm,cA,gq,h,jw,Gm,uf,eA,dy],.push hr⟩
theorem aeF{p w r o}(h:w.heap[r]? =some o)(d:∀a l,o≠.view a l){ρ}(hr:∃x,ρ x r/\¬S r)(es):∃y,(viewAt r).runT p w es=(.ok none w,y)/\fK S ρ es y:=by
 by_cases c:∃x t b,o=.cells x t b
 ·obtain⟨x,t,b,rfl⟩:=c;exact⟨es,by simp only[viewAt,shape,cX,jm,cA,gq,h,jw,xX,cD],.refl es⟩
 ·refine⟨es.push ⟨.obj r,false,o.isChan⟩,?_,.push hr⟩;cases o<;>first|exact absurd rfl (d _ _)|exact absurd ⟨_,_,_,rfl⟩ c|simp only[viewAt,shape,getObj,cX,jm,cA,gq,h,jw,uf,eA,dy]
theorem aeH{p w r a}{t:aK}(h:w.heap[r]? =some (.view a t)){ρ}(hr:∃x,ρ x r/\¬S r)(es):∃y,(viewAt r).runT p w es=(.ok (some (a,t)) w,y)/\fK S ρ es y:=
 ⟨es.push ⟨.obj r,false,false⟩,by simp only[viewAt,shape,getObj,cX,jm,cA,gq,h,jw,Gm,uf,eA,dy],.push hr⟩
theorem N8{p w r}(h:Calm w.heap[r]?)(es):(numberAt r).runT p w es=(.ok none w,es):=by obtain⟨x,t,a,h,_⟩:=h;simp only[numberAt,shape,cX,jm,cA,gq,h,jw,xX,cD]
theorem aeE{p w r}(h:Calm w.heap[r]?)(es):(viewAt r).runT p w es=(.ok none w,es):=by obtain⟨x,t,a,h,_⟩:=h;simp only[viewAt,shape,cX,jm,cA,gq,h,jw,xX,cD]
theorem SR.tI{α β:Type}{p Q ρ}{K:Kn}{s:Sem α}{s':Sem β}(h:SR p Q ρ K s s'):Vw S p Q ρ K s s':=by
 induction h with
 |pure h=>exact fun w g B d _ j=>⟨_,_,_,_,rfl,h,bO.refl d,j,.refl _⟩
 |@load ρ K m a I k A E _ C=>
  intro w g B d z i;cases H:w.cell? a with
  |some v=>
   obtain⟨v',W,hv⟩:=Di d E H;obtain⟨o,j,D⟩:=og H;exact cz.step (bO.refl d) (.cell (u:=false) (v:=m==.atomic) E.1 (i.own E.1 j D)) (by simp only[Sem.run,H]) (by simp only[cX,W]) (C v v' hv w g _ d (z.and j D) i)
  |none=>
   rcases Oo d E (m==.atomic)with⟨x,G,Z⟩|⟨v,t,t',b,b',o,G,aq,hv,W,ht,V,⟨ob,ng,th⟩,j,uW⟩
   ·have e:(Sem.load m a k).run p w=.halt x w:=by simp only[Sem.run,H,G]
    rw[e];exact cz.lost Z w
   ·exact cz.step (bO.refl d) (.many (u:=false) (v:=m==.atomic) V (i.own V ng th) ht) (by simp only[Sem.run,H,G]) (by simp only[cX,W,aq]) (C v v hv w g _ d (z.and j uW) i)
 |@store ρ K m a I v v' k A E hv _ C=>
  intro w g B d z i
  by_cases h1:(∃x,v=.agg x)\/∃x,v=.tuple x
  ·have e:∃P,(sF m a v k).run p w=.halt (.stuck P) w:=by
    rcases h1 with⟨x,rfl⟩|⟨x,rfl⟩<;>exact⟨_,rfl⟩
   obtain⟨P,e⟩:=e;rw[e];trivial
  ·have D:(∀x,v≠.agg x)/\∀x,v≠.tuple x:=⟨fun x e=>h1 (.inl ⟨x,e⟩),fun x e=>h1 (.inr ⟨x,e⟩)⟩
   have av:(∀x,v'≠.agg x)/\∀x,v'≠.tuple x:=by
    constructor
    ·rintro x rfl;cases hv;exact D.1 _ rfl
    ·rintro x rfl;cases hv;exact D.2 _ rfl
   cases H:w.cell? a with
   |some u=>
    obtain⟨u',W,_⟩:=Di d E H;obtain⟨o,j,N⟩:=og H;have aI:g.frozen? I=w.frozen? a:=YK d E H;cases hf:w.frozen? a with
    |true=>
     have e:(sF m a v k).run p w=.halt (.unsupported (.unsafePointer "a write to bytes that a string shares")) w:=by rw[vD D.1 D.2,H];simp only[hf,cD]
     rw[e];trivial
    |false=>
     have e:(sF m a v k).run p w=k.run p (w.setCell a v):=by rw[vD D.1 D.2,H];simp[hf]
     have R:(sF m I v' A).runT p g B=A.runT p (g.setCell I v') (B.push ⟨.cell I,true,m==.atomic⟩):=by rw[vC av.1 av.2,W];simp[aI,hf]
     exact cz.step (bO.set d E hv H) (.cell E.1 (i.own E.1 j N)) e R (C _ _ _ (d.set E hv H) ((z.and j N).set a v) (i.set a v))
   |none=>
    rcases Ot d E hv (m==.atomic)with⟨x,G,Z⟩|⟨b,b',o1,Re,t,t',o,G,aq,F,W,ht,V,⟨ob,ng,th⟩,j,uW⟩
    ·have e:(sF m a v k).run p w=.halt x w:=by rw[vD D.1 D.2,H];simp only[G]
     rw[e];exact cz.lost Z w
    ·have hm:=bO.put d V F ⟨ob,ng,th⟩;have e:(sF m a v k).run p w=k.run p {w with heap:=w.heap.setIfInBounds b o1}:=by rw[vD D.1 D.2,H];simp only[G]
     have R:(sF m I v' A).runT p g B=A.runT p {g with heap:=g.heap.setIfInBounds b' Re} (B++t'.toArray.map (⟨.cell ·,true,m==.atomic⟩)):=by rw[vC av.1 av.2,W];simp only[aq]
     exact cz.step hm (.many V (i.own V ng th) ht) e R (C _ _ _ hm.rel ((z.and j uW).put b (fO F)) (i.put ⟨ob,ng,th⟩ (fO F)))
 |@new ρ K o J k A j _ C=>
  intro w g B d z i;have hm:=bO.new d j;exact cz.step hm (.refl _) rfl rfl (C _ _ _ _ _ hm.rel (z.push (fO j)) (i.push d (fO j)))
 |@shape ρ K r L k A hr _ _ h1 C wS=>
  intro w g B d z i;cases U:w.shape? r with
  |none=>
   by_cases aA:K r
   ·have aC:g.shape? L=none:=by
     obtain⟨o,j,D⟩:=z r aA;rcases d.obj _ _ _ hr j with hp|⟨J,O,F⟩
     ·exact absurd hp D
     ·unfold gq at U⊢;rw[j]at U;rw[O];cases F<;>simp_all
    exact cz.step (s1:=k none) (s1':=A none) (bO.refl d) (.refl _) (by simp only[Sem.run,U]) (by simp only[cX,aC]) (wS aA w g _ d z i)
   ·obtain⟨x,G,Z⟩:=h1 aA;have e:(Gs r k).run p w=.halt x w:=by simp only[Sem.run,U,G]
    rw[e];exact cz.lost Z w
  |some x=>
   have aC:g.shape? L=some x:=abo d hr U
   have j:∃o,w.heap[r]? =some o/\o≠bG:=by
    unfold gq at U;split at U
    ·rename_i c t T H;exact⟨_,H,by intro e;cases e⟩
    ·cases U
   obtain⟨o,j,D⟩:=j;exact cz.step (s1:=k (some x)) (s1':=A (some x)) (bO.refl d) (.refl _) (by simp only[Sem.run,U]) (by simp only[cX,aC]) (C x w g _ d (z.and j D) i)
 |@freeze ρ K a I n k A E X _ C=>
  intro w g B d z i;have hm:=bO.freeze d E n (z _ X);exact cz.step hm (.refl _) rfl rfl (C _ _ _ hm.rel (z.freeze a n) (i.freeze a n))
 |@frozen ρ K a I k A E X _ C=>
  intro w g B d z i;have hf:=OW d E (z _ X);exact cz.step (s1:=k (w.frozen? a)) (s1':=A (w.frozen? a)) (bO.refl d) (.refl _) rfl (by simp only[cX,hf]) (C _ w g _ d z i)
 |@getObj ρ K r L k A hr _ h0 C=>
  intro w g B d z i;obtain⟨o,j⟩:∃o,w.heap[r]? =some o:=⟨_,cw (d.lt _ _ hr).1⟩
  by_cases M:∃x t T,o=.cells x t T
  ·obtain⟨x,t,T,rfl⟩:=M;have e:∃P,(zZ r k).run p w=.halt (.stuck P) w:=⟨ "getObj: a row of cells",by simp only[Sem.run,j]⟩;obtain⟨P,e⟩:=e;rw[e];trivial
  ·have e:(zZ r k).run p w=(k o).run p w:=by
    simp only[Sem.run,j];cases o<;>first|rfl|exact absurd ⟨_,_,_,rfl⟩ M
   rcases d.obj _ _ _ hr j with rfl|⟨J,O,F⟩
   ·obtain⟨x,G,Z⟩:=h0;rw[e,G];exact cz.lost Z w
   ·have R:(zZ L A).runT p g B=(A J).runT p g (B.push ⟨.obj L,false,J.isChan⟩):=by
     simp only[cX,O];cases F<;>first|rfl|exact absurd ⟨_,_,_,rfl⟩ M
    exact cz.step (bO.refl d) (.obj hr (i.own hr j (fO F))) e R (C o J F w g _ d (z.and j (fO F)) i)
 |@setObj ρ K r L o J k A hr X j _ C=>
  intro w g B d z i;obtain⟨x,G,wR⟩:=z r X;rcases d.obj _ _ _ hr G with hp|⟨x',aq,F⟩
  ·exact absurd hp wR
  ·have hm:=bO.put d hr j ⟨x,G,wR⟩
   by_cases M:∃y t T,x=.cells y t T
   ·obtain⟨y,t,T,rfl⟩:=M;have e:∃P,(Mr r o k).run p w=.halt (.stuck P) w:=⟨ "setObj: a row of cells",by simp only[Sem.run,G]⟩;obtain⟨P,e⟩:=e;rw[e];trivial
   ·have e:(Mr r o k).run p w=k.run p {w with heap:=w.heap.setIfInBounds r o}:=by
     simp only[Sem.run,G];cases x<;>first|rfl|exact absurd ⟨_,_,_,rfl⟩ M
    have R:(Mr L J A).runT p g B=A.runT p {g with heap:=g.heap.setIfInBounds L J} (B.push ⟨.obj L,true,J.isChan⟩):=by simp only[cX,aq];cases F<;>first|rfl|exact absurd ⟨_,_,_,rfl⟩ M
    exact cz.step hm (.obj hr (i.own hr G wR)) e R (C _ _ _ hm.rel (z.put r (fO j)) (i.put ⟨x,G,wR⟩ (fO j)))
 |@choose ρ K q k A _ C=>
  intro w g B d z i
  by_cases hq:q.forced=true
  ·exact cz.step (s1:=k 0) (s1':=A 0) (bO.refl d) (.refl _) (by simp only[Sem.run,hq,cD]) (by simp only[cX,hq,cD]) (C 0 w g _ d z i)
  ·have ht:g.tape g.drawn q=w.tape w.drawn q:=d.tape 0 q;have hm:=bO.draw d;exact cz.step (s1:=k (q.cut (w.tape w.drawn q))) (s1':=A (q.cut (w.tape w.drawn q))) hm (.refl _) (by simp only[Sem.run,hq,dy,eA]) (by simp only[cX,hq,dy,ht,eA]) (C _ _ _ _ hm.rel z i)
 |@program ρ K k A _ C=>
  intro w g B d z i;exact cz.step (bO.refl d) (.refl _) rfl rfl (C w g _ d z i)
 |@env ρ K k A _ C=>
  intro w g B d z i;exact cz.step (s1:=k (.strings w.os.env)) (s1':=A (.strings w.os.env)) (bO.refl d) (.out (u:=true) (v:=false)) rfl (by rw[<-d.os.1];rfl) (C _ w g _ d z i)
 |@noRoom ρ K k A _ C=>
  intro w g B d z i;exact cz.step (bO.refl d) .room rfl rfl (C w g _ d z i)
 |panic h=>exact fun w g B d _ i=>⟨_,_,_,_,rfl,h,bO.refl d,i,.refl _⟩
 |lost h=>exact fun w g B _ _ _=>cz.lost h w
 |uR h=>
  intro w g B _ _ _;obtain⟨x,w1,e,G⟩:=h w;rw[e];exact cz.lost G w1
 |assume _ C=>exact fun w g B d z i=>C ⟨d.one,d.low,d.os.2⟩ w g B d z i
 |@number ρ K r L k A hr _ _ wS aE=>
  intro w g B d z i;obtain⟨o,j⟩:∃o,w.heap[r]? =some o:=⟨_,cw (d.lt _ _ hr).1⟩;rcases d.obj _ _ _ hr j with rfl|⟨J,O,F⟩
  ·have e:(numberAt r).run p w=.ok none w:=Es j (fun a l e=>by cases e);exact cz.step (s1:=k none) (s1':=A none) (bO.refl d) (.refl _) (by rw[gH,e];rfl) (by rw[cG,N8 (d.calm _ _ hr j)]) (wS w g _ d z i)
  ·have N:=fO F
   by_cases D:∃a l,o=.number a l
   ·obtain⟨a,l,rfl⟩:=D;cases F with
    |@number _ I _ E=>
     obtain⟨y,hy,Y⟩:=O2 (p:=p) O ⟨_,hr,i.own hr j N⟩ B;exact cz.step (s1:=k (some (a,l))) (s1':=A (some (I,l))) (bO.refl d) Y (by rw[gH,Rc j];rfl) (by rw[cG,hy]) (aE a I l E w g _ d (z.and j (by intro e;cases e)) i)
   ·have e:(numberAt r).run p w=.ok none w:=Es j (fun a l e=>D ⟨a,l,e⟩);obtain⟨y,hy,Y⟩:=N9 (p:=p) O (fun a l e=>by subst e;cases F;exact D ⟨_,_,rfl⟩) ⟨_,hr,i.own hr j N⟩ B;exact cz.step (s1:=k none) (s1':=A none) (bO.refl d) Y (by rw[gH,e];rfl) (by rw[cG,hy]) (wS w g _ d z i)
 |@icy ρ K a I k A E _ C=>
  intro w g B d z i;exact cz.step (s1:=k (w.frozen? a)) (s1':=A (w.frozen? a)) (bO.refl d) (.refl _) rfl (by simp only[cX,(DX d E)]) (C _ w g _ d z i)
 |@kin ρ K a I b b' k A E V _ C=>
  intro w g B d z i;have e:(Cq a b).run p w=.ok (rE w a b) w:=by rw[<-iW p _ w #[],AY]
  exact cz.step (s1:=k (rE w a b)) (s1':=A (rE w a b)) (bO.refl d) (.refl _) (by rw[gH,e];rfl) (by rw[cG,AY,E9 d E V]) (C _ w g _ d z i)
 |@AI ρ K r L k A hr X _ C=>
  intro w g B d z i;obtain⟨o,j,N⟩:=z r X
  by_cases M:∃x t T,o=.cells x t T
  ·obtain⟨x,t,T,rfl⟩:=M;have e:∃P,(zZ r k).run p w=.halt (.stuck P) w:=⟨ "getObj: a row of cells",by simp only[Sem.run,j]⟩;obtain⟨P,e⟩:=e;rw[e];trivial
  ·have e:(zZ r k).run p w=(k o).run p w:=by
    simp only[Sem.run,j];cases o<;>first|rfl|exact absurd ⟨_,_,_,rfl⟩ M
   rcases d.obj _ _ _ hr j with rfl|⟨J,O,F⟩
   ·exact absurd rfl N
   ·have R:(zZ L A).runT p g B=(A J).runT p g (B.push ⟨.obj L,false,J.isChan⟩):=by
     simp only[cX,O];cases F<;>first|rfl|exact absurd ⟨_,_,_,rfl⟩ M
    exact cz.step (bO.refl d) (.obj hr (i.own hr j N)) e R (C o J F w g _ d z i)
 |@ext ρ K f k A _ C=>
  intro w g B d z i;exact cz.step (bO.refl d) .ext rfl rfl (C w g _ d z i)
 |@view ρ K r L k A hr _ _ wS aE=>
  intro w g B d z i;obtain⟨o,j⟩:∃o,w.heap[r]? =some o:=⟨_,cw (d.lt _ _ hr).1⟩;rcases d.obj _ _ _ hr j with rfl|⟨J,O,F⟩
  ·have e:(viewAt r).run p w=.ok none w:=FC j (fun a t e=>by cases e);exact cz.step (s1:=k none) (s1':=A none) (bO.refl d) (.refl _) (by rw[gH,e];rfl) (by rw[cG,aeE (d.calm _ _ hr j)]) (wS w g _ d z i)
  ·have N:=fO F
   by_cases D:∃a t,o=.view a t
   ·obtain⟨a,t,rfl⟩:=D;cases F with
    |@view _ I _ _ E=>
     obtain⟨y,hy,Y⟩:=aeH (p:=p) O ⟨_,hr,i.own hr j N⟩ B;exact cz.step (s1:=k (some (a,t))) (s1':=A (some (I,t))) (bO.refl d) Y (by rw[gH,Tw j];rfl) (by rw[cG,hy]) (aE a I t E w g _ d (z.and j (by intro e;cases e)) i)
   have e:(viewAt r).run p w=.ok none w:=FC j (fun a t e=>D ⟨a,t,e⟩);obtain⟨y,hy,Y⟩:=aeF (p:=p) O (fun a t e=>by subst e;cases F;exact D ⟨_,_,rfl⟩) ⟨_,hr,i.own hr j N⟩ B;exact cz.step (s1:=k none) (s1':=A none) (bO.refl d) Y (by rw[gH,e];rfl) (by rw[cG,hy]) (wS w g _ d z i)
end
abbrev _root_.Go.World.tp(w:an)(a:Nat->mN->Nat):an:={w with tape:=a}
def jA(d c:Nat->mN->Nat)(a b:Nat):Prop:=∀i q,a<=i->i<b->d i q=c i q
theorem jA.sub{τ σ a b a' b'}(h:jA τ σ a b)(e:a<=a')(f:b'<=b):jA τ σ a' b':=fun i q c d=>h i q (cS e c) (cV d f)
def _root_.Go.Result.world{α:Type}:yc α->an
 |.ok _ w=>w
 |.halt _ w=>w
def _root_.Go.Result.tp{α:Type}(b:Nat->mN->Nat):yc α->yc α
 |.ok a w=>.ok a (w.tp b)
 |.halt h w=>.halt h (w.tp b)
structure jF(w w1:an):Prop where
 drawn:w.drawn<=w1.drawn
 tape:w1.tape=w.tape
theorem jF.refl(w):jF w w:=⟨aV _,rfl⟩
theorem jF.trans{a b c}(h:jF a b)(k:jF b c):jF a c:=⟨cS h.drawn k.drawn,k.tape.trans h.tape⟩
def dH{α:Type}(p:aN)(s:Sem α)(w:an):Prop:=
 (∃x c,s.run p w=.halt x c/\jT x)\/(jF w (s.run p w).world/\∀a b,jA b w.tape w.drawn (s.run p w).world.drawn->s.runT p (w.tp b) a=((s.runT p w a).1.tp b,(s.runT p w a).2))
theorem dH.step{α:Type}{p}{s s1:Sem α}{w w1:an}(f:jF w w1)(e:s.run p w=s1.run p w1)
  (h:∀b,∃c,s.runT p w b=s1.runT p w1 c/\∀a,jA a w.tape w.drawn (s1.run p w1).world.drawn->jF w1 (s1.run p w1).world->s.runT p (w.tp a) b=s1.runT p (w1.tp a) c) (k:dH p s1 w1):dH p s w:=by
 rcases k with⟨x,o,m,l⟩|⟨g,n⟩
 ·exact .inl ⟨x,o,e.trans m,l⟩
 ·refine .inr ⟨by rw[e];exact f.trans g,fun b a d=>?_⟩;rw[e]at d;obtain⟨c,i,j⟩:=h b;rw[j a d g,i];exact n c a (by rw[f.tape];exact d.sub f.drawn (aV _))
theorem Se(w:an)(b:Nat->mN->Nat)(a:eV)(v:au):(w.tp b).setCell a v=(w.setCell a v).tp b:=rfl
theorem YJ(w:an)(b:Nat->mN->Nat)(a:eV)(n:Nat):(w.tp b).freeze a n=(w.freeze a n).tp b:=by unfold yf;split<;>rfl
theorem YI(w a n):jF w (w.freeze a n):=by
 unfold yf;split
 ·exact .refl w
 ·exact⟨aV _,rfl⟩
theorem Ye{p}(w:an)(b:Nat->mN->Nat)(a:eV)(v:au)(m:Bool):(w.tp b).farStore p a v m=match w.farStore p a v m with|.ok (d,t)=>.ok (d.tp b,t)|.error h=>.error h:=by
 have hv:∀at_ u,(w.tp b).viewStore p at_ u a v m=match w.viewStore p at_ u a v m with|.ok (d,t)=>.ok (d.tp b,t)|.error h=>.error h:=fun at_ u=>by
  unfold World.viewStore;have e:(w.tp b).seen p at_ u a m=w.seen p at_ u a m:=rfl;simp only[bind,Except.bind,pure,Except.pure,e];have f:∀{g:Type} (s:String),(MonadExcept.throw s:Except String g)=.error s:=fun _=>rfl;simp only[f]
  repeat' (split<;>try rfl)
  all_goals simp_all
 unfold World.farStore;split
 ·rename_i x y c;have c:=c;rw[c];dsimp only;rw[hv];cases w.viewStore p x y a v m<;>rfl
 ·rename_i o c;split
  ·rename_i h;cases h
  ·rename_i h;rw[<-h];rfl
theorem O4{p r a l}(es):∃y,∀v:an,v.heap[r]? =some (.number a l)->(numberAt r).runT p v es=(.ok (some (a,l)) v,y):=
 ⟨es.push ⟨.obj r,false,false⟩,fun v hv=>by simp only[numberAt,shape,getObj,cX,jm,cA,gq,hv,jw,uf,eA,dy,Gm]⟩
theorem Rb{p r o}(d:∀a l,o≠.number a l)(es):∃y,∀v:an,v.heap[r]? =some o->(numberAt r).runT p v es=(.ok none v,y):=by
 by_cases c:∃x t b,o=.cells x t b
 ·obtain⟨x,t,b,rfl⟩:=c;exact⟨es,fun v hv=>by simp only[numberAt,shape,cX,jm,cA,gq,hv,jw,xX,cD]⟩
 ·refine⟨es.push ⟨.obj r,false,o.isChan⟩,fun v hv=>?_⟩;cases o<;>first|exact absurd rfl (d _ _)|exact absurd ⟨_,_,_,rfl⟩ c|simp only[numberAt,shape,getObj,cX,jm,cA,gq,hv,jw,uf,eA,dy]
theorem aeI{p r a}{t:aK}(es):∃y,∀v:an,v.heap[r]? =some (.view a t)->(viewAt r).runT p v es=(.ok (some (a,t)) v,y):=
 ⟨es.push ⟨.obj r,false,false⟩,fun v hv=>by simp only[viewAt,shape,getObj,cX,jm,cA,gq,hv,jw,uf,eA,dy,Gm]⟩
theorem aeG{p r o}(d:∀a l,o≠.view a l)(es):∃y,∀v:an,v.heap[r]? =some o->(viewAt r).runT p v es=(.ok none v,y):=by
 by_cases c:∃x t b,o=.cells x t b
 ·obtain⟨x,t,b,rfl⟩:=c;exact⟨es,fun v hv=>by simp only[viewAt,shape,cX,jm,cA,gq,hv,jw,xX,cD]⟩
 ·refine⟨es.push ⟨.obj r,false,o.isChan⟩,fun v hv=>?_⟩;cases o<;>first|exact absurd rfl (d _ _)|exact absurd ⟨_,_,_,rfl⟩ c|simp only[viewAt,shape,getObj,cX,jm,cA,gq,hv,jw,uf,eA,dy]
section
variable [aA] {S:Nat->Prop}
theorem SR.loc{α β:Type}{p Q ρ}{K:Kn}{s:Sem α}{s':Sem β}(h:SR p Q ρ K s s'):∀w A,WR p ρ w A->Own K w->Whole S ρ w->dH p s w:=by
 induction h with
 |pure h=>exact fun w A _ _ _=>.inr ⟨.refl w,fun _ _ _=>rfl⟩
 |@load ρ K m a N k G H _ C=>
  intro w A d i z;cases F:w.cell? a with
  |some v=>
   obtain⟨v',IE,hv⟩:=Di d H F;obtain⟨o,g,D⟩:=og F;refine dH.step (s1:=k v) (.refl w) (by simp only[Sem.run,F]) (fun j=>⟨_,by simp only[cX,F];rfl,fun B _ _=>?_⟩) (C v v' hv w A d (i.and g D) z);have P:(w.tp B).cell? a=some v:=F;simp only[cX,P]
  |none=>
   rcases Oo d H (m==.atomic)with⟨x,E,R⟩|⟨v,t,t',b,b',o,E,aF,hv,IE,ht,hb,⟨ob,ng,th⟩,g,uW⟩
   ·exact .inl ⟨x,w,by simp only[Sem.run,F,E],R⟩
   ·refine dH.step (s1:=k v) (.refl w) (by simp only[Sem.run,F,E]) (fun j=>⟨_,by simp only[cX,F,E];rfl,fun B _ _=>?_⟩) (C v v hv w A d (i.and g uW) z);have P:(w.tp B).cell? a=none:=F;have Jc:(w.tp B).farLoad p a (m==.atomic)=.ok (v,t):=E;simp only[cX,P,Jc]
 |@store ρ K m a N v v' k G H hv _ C=>
  intro w A d i z
  by_cases X:(∃x,v=.agg x)\/∃x,v=.tuple x
  ·rcases X with⟨x,rfl⟩|⟨x,rfl⟩<;>exact .inl ⟨_,w,rfl,trivial⟩
  ·have D:(∀x,v≠.agg x)/\∀x,v≠.tuple x:=⟨fun x e=>X (.inl ⟨x,e⟩),fun x e=>X (.inr ⟨x,e⟩)⟩;cases F:w.cell? a with
   |some u=>
    obtain⟨u',IE,_⟩:=Di d H F;obtain⟨o,g,ah⟩:=og F;cases hf:w.frozen? a with
    |true=>exact .inl ⟨.unsupported (.unsafePointer "a write to bytes that a string shares"),w,by rw[vD D.1 D.2,F];simp only[hf,cD],trivial⟩
    |false=>
     refine dH.step (s1:=k) (w1:=w.setCell a v) ⟨aV _,rfl⟩ (by rw[vD D.1 D.2,F];simp[hf]) (fun j=>⟨j.push ⟨.cell a,true,m==.atomic⟩,by rw[vC D.1 D.2,F];simp[hf],fun B _ _=>?_⟩) (C _ _ (d.set H hv F) ((i.and g ah).set a v) (z.set a v));have P:(w.tp B).cell? a=some u:=F;have aC:(w.tp B).frozen? a=false:=hf;rw[vC D.1 D.2,P];simp only[aC,eA,dy];rfl
   |none=>
    rcases Ot d H hv (m==.atomic)with⟨x,E,R⟩|⟨b,b',o1,Re,t,t',o,E,aF,L,IE,ht,hb,⟨ob,ng,th⟩,g,uW⟩
    ·exact .inl ⟨x,w,by rw[vD D.1 D.2,F];simp only[E],R⟩
    ·have hm:=bO.put d hb L ⟨ob,ng,th⟩;refine dH.step (s1:=k) (w1:={w with heap:=w.heap.setIfInBounds b o1}) ⟨aV _,rfl⟩ (by rw[vD D.1 D.2,F];simp only[E]) (fun j=>⟨j++t.toArray.map (⟨.cell ·,true,m==.atomic⟩),by rw[vC D.1 D.2,F];simp only[E],fun B _ _=>?_⟩) (C _ _ hm.rel ((i.and g uW).put b (fO L)) (z.put ⟨ob,ng,th⟩ (fO L)));have P:(w.tp B).cell? a=none:=F
     have Jc:(w.tp B).farStore p a v (m==.atomic)=.ok ({w.tp B with heap:=w.heap.setIfInBounds b o1},t):=by have e:=Ye (p:=p) w B a v (m==.atomic);rw[E]at e;exact e
     rw[vC D.1 D.2,P];simp only[Jc]
 |@new ρ K o T k G g _ C=>
  intro w A d i z;have hm:=bO.new d g;exact dH.step (s1:=k w.heap.size) (w1:={w with heap:=w.heap.push o}) ⟨aV _,rfl⟩ rfl (fun j=>⟨j,rfl,fun B _ _=>rfl⟩) (C _ _ _ _ hm.rel (i.push (fO g)) (z.push d (fO g)))
 |@shape ρ K r Z k G hr _ _ X C W=>
  intro w A d i z;cases M:w.shape? r with
  |none=>
   by_cases ay:K r
   ·refine dH.step (s1:=k none) (.refl w) (by simp only[Sem.run,M]) (fun j=>⟨j,by simp only[cX,M],fun B _ _=>?_⟩) (W ay w A d i z);have fN:(w.tp B).shape? r=none:=M;simp only[cX,fN]
   ·obtain⟨x,E,R⟩:=X ay;exact .inl ⟨x,w,by simp only[Sem.run,M,E],R⟩
  |some x=>
   have g:∃o,w.heap[r]? =some o/\o≠bG:=by
    unfold gq at M;split at M
    ·rename_i c t O F;exact⟨_,F,by intro e;cases e⟩
    ·cases M
   obtain⟨o,g,D⟩:=g;refine dH.step (s1:=k (some x)) (.refl w) (by simp only[Sem.run,M]) (fun j=>⟨j,by simp only[cX,M],fun B _ _=>?_⟩) (C x w A d (i.and g D) z);have fN:(w.tp B).shape? r=some x:=M;simp only[cX,fN]
 |@freeze ρ K a N n k G H U _ C=>
  intro w A d i z;have hm:=bO.freeze d H n (i _ U);exact dH.step (s1:=k) (w1:=w.freeze a n) (YI w a n) rfl (fun j=>⟨j,rfl,fun B _ _=>by rw[<-YJ];rfl⟩) (C _ _ hm.rel (i.freeze a n) (z.freeze a n))
 |@frozen ρ K a N k G H U _ C=>
  intro w A d i z;exact dH.step (s1:=k (w.frozen? a)) (.refl w) rfl (fun j=>⟨j,rfl,fun B _ _=>rfl⟩) (C _ w A d i z)
 |@getObj ρ K r Z k G hr _ h0 C=>
  intro w A d i z;obtain⟨o,g⟩:∃o,w.heap[r]? =some o:=⟨_,cw (d.lt _ _ hr).1⟩
  by_cases I:∃x t O,o=.cells x t O
  ·obtain⟨x,t,O,rfl⟩:=I;exact .inl ⟨.stuck "getObj: a row of cells",w,by simp only[Sem.run,g],trivial⟩
  ·rcases d.obj _ _ _ hr g with rfl|⟨T,aj,L⟩
   ·obtain⟨x,E,R⟩:=h0;refine .inl ⟨x,w,?_,R⟩;simp only[Sem.run,g,bG];rw[<-bG,E];rfl
   ·refine dH.step (s1:=k o) (.refl w) ?_ (fun j=>⟨j.push ⟨.obj r,false,o.isChan⟩,?_,fun B _ _=>?_⟩) (C o T L w A d (i.and g (fO L)) z)
    ·simp only[Sem.run,g];cases o<;>first|rfl|exact absurd ⟨_,_,_,rfl⟩ I
    ·simp only[cX,g];cases o<;>first|rfl|exact absurd ⟨_,_,_,rfl⟩ I
    ·have Y:(w.tp B).heap[r]? =some o:=g;simp only[cX,Y];cases o<;>first|rfl|exact absurd ⟨_,_,_,rfl⟩ I
 |@setObj ρ K r Z o T k G hr U g _ C=>
  intro w A d i z;obtain⟨x,E,wR⟩:=i r U;have hm:=bO.put d hr g ⟨x,E,wR⟩
  by_cases I:∃y t O,x=.cells y t O
  ·obtain⟨y,t,O,rfl⟩:=I;exact .inl ⟨.stuck "setObj: a row of cells",w,by simp only[Sem.run,E],trivial⟩
  ·refine dH.step (s1:=k) (w1:={w with heap:=w.heap.setIfInBounds r o}) ⟨aV _,rfl⟩ ?_ (fun j=>⟨j.push ⟨.obj r,true,o.isChan⟩,?_,fun B _ _=>?_⟩) (C _ _ hm.rel (i.put r (fO g)) (z.put ⟨x,E,wR⟩ (fO g)))
   ·simp only[Sem.run,E];cases x<;>first|rfl|exact absurd ⟨_,_,_,rfl⟩ I
   ·simp only[cX,E];cases x<;>first|rfl|exact absurd ⟨_,_,_,rfl⟩ I
   ·have Y:(w.tp B).heap[r]? =some x:=E;simp only[cX,Y];cases x<;>first|rfl|exact absurd ⟨_,_,_,rfl⟩ I
 |@choose ρ K q k G _ C=>
  intro w A d i z
  by_cases V:q.forced=true
  ·exact dH.step (s1:=k 0) (.refl w) (by simp only[Sem.run,V,cD]) (fun j=>⟨j,by simp only[cX,V,cD],fun B _ _=>by simp only[cX,V,cD]⟩) (C 0 w A d i z)
  ·have hm:=bO.draw d;refine dH.step (s1:=k (q.cut (w.tape w.drawn q))) (w1:={w with drawn:=w.drawn+1}) ⟨ju _,rfl⟩ (by simp only[Sem.run,V,dy,eA]) (fun j=>⟨j,by simp only[cX,V,dy,eA],fun B hA g=>?_⟩) (C _ _ _ hm.rel i z);have e:B w.drawn q=w.tape w.drawn q:=hA _ _ (aV _) (cV (xS _) g.drawn);simp only[cX,V,dy,eA,e]
 |@program ρ K k G _ C=>
  intro w A d i z;exact dH.step (s1:=k p) (.refl w) rfl (fun j=>⟨j,rfl,fun B _ _=>rfl⟩) (C w A d i z)
 |@env ρ K k G _ C=>
  intro w A d i z;exact dH.step (s1:=k (.strings w.os.env)) (.refl w) rfl (fun j=>⟨_,rfl,fun B _ _=>rfl⟩) (C _ w A d i z)
 |@noRoom ρ K k G _ C=>
  intro w A d i z;exact dH.step (s1:=k) (.refl w) rfl (fun j=>⟨_,rfl,fun B _ _=>rfl⟩) (C w A d i z)
 |panic h=>exact fun w A _ _ _=>.inr ⟨.refl w,fun _ _ _=>rfl⟩
 |lost h=>exact fun w A _ _ _=>.inl ⟨_,w,rfl,h⟩
 |uR h=>
  intro w A _ _ _;obtain⟨x,w1,e,E⟩:=h w;exact .inl ⟨x,w1,e,E⟩
 |assume _ C=>exact fun w A d i z=>C ⟨d.one,d.low,d.os.2⟩ w A d i z
 |@number ρ K r Z k G hr _ _ W ak=>
  intro w A d i z;obtain⟨o,g⟩:∃o,w.heap[r]? =some o:=⟨_,cw (d.lt _ _ hr).1⟩;rcases d.obj _ _ _ hr g with rfl|⟨T,aj,L⟩
  ·have D:∀a l,bG≠.number a l:=fun a l e=>by cases e
   refine dH.step (s1:=k none) (.refl w) (by rw[gH,Es g D];rfl) (fun j=>?_) (W w A d i z);obtain⟨y,J⟩:=Rb (p:=p) (r:=r) D j;exact⟨y,by rw[cG,J w g],fun B _ _=>by rw[cG,J (w.tp B) g]⟩
  ·by_cases D:∃a l,o=.number a l
   ·obtain⟨a,l,rfl⟩:=D;cases L with
    |@number _ N _ H=>
     refine dH.step (s1:=k (some (a,l))) (.refl w) (by rw[gH,Rc g];rfl) (fun j=>?_) (ak a N l H w A d (i.and g (by intro e;cases e)) z);obtain⟨y,J⟩:=O4 (p:=p) (r:=r) (a:=a) (l:=l) j;exact⟨y,by rw[cG,J w g],fun B _ _=>by rw[cG,J (w.tp B) g]⟩
   ·refine dH.step (s1:=k none) (.refl w) (by rw[gH,Es g (fun a l e=>D ⟨a,l,e⟩)];rfl) (fun j=>?_) (W w A d i z);obtain⟨y,J⟩:=Rb (p:=p) (r:=r) (fun a l e=>D ⟨a,l,e⟩) j;exact⟨y,by rw[cG,J w g],fun B _ _=>by rw[cG,J (w.tp B) g]⟩
 |@icy ρ K a N k G H _ C=>
  intro w A d i z;exact dH.step (s1:=k (w.frozen? a)) (.refl w) rfl (fun j=>⟨j,rfl,fun B _ _=>rfl⟩) (C _ w A d i z)
 |@kin ρ K a N b b' k G H hb _ C=>
  intro w A d i z;have e:(Cq a b).run p w=.ok (rE w a b) w:=by rw[<-iW p _ w #[],AY]
  exact dH.step (s1:=k (rE w a b)) (.refl w) (by rw[gH,e];rfl) (fun j=>⟨j,by rw[cG,AY],fun B _ _=>by rw[cG,AY];rfl⟩) (C _ w A d i z)
 |@AI ρ K r Z k G hr U _ C=>
  intro w A d i z;obtain⟨o,g,ah⟩:=i r U
  by_cases I:∃x t O,o=.cells x t O
  ·obtain⟨x,t,O,rfl⟩:=I;exact .inl ⟨.stuck "getObj: a row of cells",w,by simp only[Sem.run,g],trivial⟩
  ·rcases d.obj _ _ _ hr g with rfl|⟨T,aj,L⟩
   ·exact absurd rfl ah
   ·refine dH.step (s1:=k o) (.refl w) ?_ (fun j=>⟨j.push ⟨.obj r,false,o.isChan⟩,?_,fun B _ _=>?_⟩) (C o T L w A d i z)
    ·simp only[Sem.run,g];cases o<;>first|rfl|exact absurd ⟨_,_,_,rfl⟩ I
    ·simp only[cX,g];cases o<;>first|rfl|exact absurd ⟨_,_,_,rfl⟩ I
    ·have Y:(w.tp B).heap[r]? =some o:=g;simp only[cX,Y];cases o<;>first|rfl|exact absurd ⟨_,_,_,rfl⟩ I
 |@ext ρ K f k G _ C=>
  intro w A d i z;exact dH.step (s1:=k) (.refl w) rfl (fun j=>⟨_,rfl,fun B _ _=>rfl⟩) (C w A d i z)
 |@view ρ K r Z k G hr _ _ W ak=>
  intro w A d i z;obtain⟨o,g⟩:∃o,w.heap[r]? =some o:=⟨_,cw (d.lt _ _ hr).1⟩
  by_cases hv:∃a t,o=.view a t
  ·obtain⟨a,t,rfl⟩:=hv;rcases d.obj _ _ _ hr g with h|⟨T,aj,L⟩
   ·cases h
   ·cases L with
    |@view _ N _ _ H=>
     refine dH.step (s1:=k (some (a,t))) (.refl w) (by rw[gH,Tw g];rfl) (fun j=>?_) (ak a N t H w A d (i.and g (by intro e;cases e)) z);obtain⟨y,J⟩:=aeI (p:=p) (r:=r) (a:=a) (t:=t) j;exact⟨y,by rw[cG,J w g],fun B _ _=>by rw[cG,J (w.tp B) g]⟩
  have D:∀a t,o≠.view a t:=fun a t e=>hv ⟨a,t,e⟩
  ·refine dH.step (s1:=k none) (.refl w) (by rw[gH,FC g D];rfl) (fun j=>?_) (W w A d i z);obtain⟨y,J⟩:=aeG (p:=p) (r:=r) D j;exact⟨y,by rw[cG,J w g],fun B _ _=>by rw[cG,J (w.tp B) g]⟩
end
structure aQ where
 wh:Int
 nm:ByteArray
 kd:Int
 fl:Int
 ck:Int
 of:Int
 ln:Int
 dt:ByteArray
 er:Int
def aQ.zero:aQ:=⟨0,⟨#[]⟩,0,0,0,0,0,⟨#[]⟩,0⟩
def aQ.closing:aQ:=⟨4,⟨#[]⟩,0,0,0,0,0,⟨#[]⟩,0⟩
def bt(s:ByteArray)(i:Nat):Int:=((s.data.getD i 0).toNat:Int)
theorem uN(s i)(h:i<s.size):(s[i].toNat:Int)=bt s i:=by unfold bt;rw[show s[i]=s.data[i] from rfl];simp[Array.getD,h]
theorem nR(s i):0<=bt s i/\bt s i<=255:=by unfold bt;have:=(s.data.getD i 0).toNat_lt;omega
def two(s:ByteArray)(i:Nat):Int:=bt s i+256*bt s (i+1)
abbrev mG(s d:ByteArray)(e:Int):aQ:=⟨3,⟨#[]⟩,bt s 1,bt s 2,two s 3,two s 5,two s 7,d,e⟩
theorem kG(s i):0<=two s i/\two s i<=65535:=by have a:=nR s i;have b:=nR s (i+1);unfold two;omega
def verdict(sz a fl of ln:Int):Int:=
 if 5<a\/1<fl then 22
 else if fl=1/\a≠3/\a≠1/\a≠4 then 22
 else if a≠0/\a≠3/\a≠1/\a≠4 then(if of≠0\/ln≠0 then 22 else 0)
 else if ln=0\/ln %4≠0\/of %4≠0 then 22
 else if sz<of+ln then(if a=1\/a=4 then 28 else 22)
 else 0
def uV(i:Nat):Int:=if i=0 then 70 else if i=1 then 69 else if i=2 then 82 else if i=3 then 82 else 89
def cP(s:ByteArray):Nat->Nat->aQ×Int
 |0,_=>if s.size<6 then(.zero,0)else(⟨1,s.extract 5 6,0,0,0,0,0,⟨#[]⟩,0⟩,6)
 |f+1,i=>if s.size<=i then(.zero,0)else if bt s i=uV i then cP s f (i+1)else(.closing,i+1)
def mC(s:ByteArray):aQ×Int:=cP s 5 0
def opt(s:ByteArray):aQ×Int:=
 if s.size=0 then(.zero,0)else if bt s 0<97\/122<bt s 0 then(.closing,1)else(⟨2,s.extract 0 1,0,0,0,0,0,⟨#[]⟩,0⟩,1)
def lA(sz a:Int)(b:List Int)(s:ByteArray):aQ×Int:=
 if s.size<9 then(.zero,0)
 else if bt s 0≠81\/a<two s 7\/two s 3∈b then(.closing,9)
 else if bt s 1=1 then
  (if(s.size:Int)<9+two s 7 then(.zero,0)
   else((mG s (s.extract 9 (9+two s 7).toNat) (verdict sz (bt s 1) (bt s 2) (two s 5) (two s 7))),9+two s 7))
 else(⟨3,⟨#[]⟩,bt s 1,bt s 2,two s 3,two s 5,two s 7,⟨#[]⟩,verdict sz (bt s 1) (bt s 2) (two s 5) (two s 7)⟩,9)
def first(sz a ph:Int)(b:List Int)(s:ByteArray):aQ×Int:=
 if ph=0 then mC s else if ph=1 then opt s else if ph=2 then lA sz a b s else(.zero,0)
def after(ph:Int)(m:aQ):Int:=
 if m.wh=1/\(m.nm.toList==[97])=true then 1 else if m.wh=2/\(m.nm.toList==[103])=true then 2 else if m.wh=3/\m.kd=5/\m.er=0 then 3 else if m.wh=4 then 4 else ph
def accepted(m:aQ):Bool:=decide (m.wh=3/\m.er=0/\m.kd≠5)
structure St where
 ph:Int
 used:List Int
 pos:Nat
def St.step(st:St)(x:aQ×Int):St:=⟨after st.ph x.1,if accepted x.1 then st.used++[x.1.ck]else st.used,st.pos+x.2.toNat⟩
def St.run(st:St)(xs:List (aQ×Int)):St:=xs.foldl St.step st
theorem St.Kj(st:St)(xs:List (aQ×Int))(x:aQ×Int):st.run (xs++[x])=(st.run xs).step x:=by simp[St.run,zU]
def St.next(sz a:Int)(s:ByteArray)(st:St):aQ×Int:=first sz a st.ph st.used (s.extract st.pos s.size)
def lK(sz a:Int)(s:ByteArray):St->List (aQ×Int)->Prop
 |_,[]=>True
 |st,x::b=>st.next sz a s=x/\x.2≠0/\lK sz a s (st.step x) b
theorem RS(sz mx s)(st:St)(xs:List (aQ×Int))(x:aQ×Int):lK sz mx s st (xs++[x])↔lK sz mx s st xs/\(st.run xs).next sz mx s=x/\x.2≠0:=by
 induction xs generalizing st with
 |nil=>simp[lK,St.run]
 |cons y g f=>
  simp only[jR,lK,f];simp;constructor
  ·rintro⟨a,b,c,d,e⟩;exact⟨⟨a,b,c⟩,d,e⟩
  ·rintro⟨⟨a,b,c⟩,d,e⟩;exact⟨a,b,c,d,e⟩
theorem Zs(s f i):0<=(cP s f i).2/\(cP s f i).2<=s.size:=by
 induction f generalizing i with
 |zero=>unfold cP;split<;>simp<;>omega
 |succ f a=>
  unfold cP;split
  ·simp
  ·split
   ·exact a (i+1)
   ·simp;omega
theorem Ik(sz mx ph used s):0<=(first sz mx ph used s).2/\(first sz mx ph used s).2<=s.size:=by
 have a:=kG s 7;unfold first
 split
 ·exact Zs s 5 0
 ·split
  ·unfold opt;repeat' split
   all_goals simp
   all_goals omega
  ·split
   ·unfold lA;repeat' split
    all_goals simp
    all_goals omega
   ·simp
theorem QU(sz mx s)(st:St):0<=(st.next sz mx s).2/\(st.next sz mx s).2<=(s.size-st.pos:Nat):=by
 have h:=Ik sz mx st.ph st.used (s.extract st.pos s.size);have e:(s.extract st.pos s.size).size=s.size-st.pos:=by simp[kL]
 rw[e]at h;exact h
theorem Kk(sz mx s)(st:St)(xs:List (aQ×Int))(h0:st.pos<=s.size)(h:lK sz mx s st xs):st.pos+xs.length<=(st.run xs).pos/\(st.run xs).pos<=s.size:=by
 induction xs generalizing st with
 |nil=>simp[St.run];omega
 |cons x xs d=>
  obtain⟨a,f,b⟩:=h;have c:=QU sz mx s st;rw[a]at c;have e:(st.step x).pos=st.pos+x.2.toNat:=rfl;have:=d (st.step x) ak b;simp only[St.run,rX,eD]at this⊢;omega
end
end Go.Proofs.YtpobhljcainmdaaGreat
