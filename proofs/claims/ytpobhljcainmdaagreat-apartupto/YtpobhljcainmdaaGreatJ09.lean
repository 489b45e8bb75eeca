/- For every list of raw numbers, script of steps of bulk at most 1048576, text and raw number, Apart answers true and leaves them as they were: one more client, who asks for nothing, changes nothing for the others. -/
import Derived.Test.YtpobhljcainmdaaGreatJ08
set_option maxRecDepth 100000
set_option maxHeartbeats 8000000
set_option linter.all false
namespace Go.Proofs.YtpobhljcainmdaaGreat
open Go.Frame renaming enter->ba
open Go.Proofs.Tryz renaming prog->ai
open Go.World renaming cell?->kD
open Go.Value renaming slice->ζ,bool->ω
open Go renaming World->aq,Value->aB,undef->y,FuncId->aZ,TypeId->aY
open Go.World renaming cell?_of_block->iO,cell?->gp
open Go.Value renaming cells->zR
open _root_.List renaming range->dA
open Go.DataW renaming trod->asB,trod_lt->asN
open _root_.Classical renaming choose_spec->asC,choose->asI
open Go.ConcR renaming Payload->oM
open Go.Ending renaming returned->aG
open _root_.Bool renaming false->aa,true->M
open _root_.Option renaming none->aj,some->Z
open _root_.Or renaming inl->aA,inr->az
open Go.ConcR (Payload)
attribute [local go_sem ↓] Go.wp_at_zero Go.wp_at_succ
attribute [local go_sem] cz cE
open Go.Conc Go.RowKit
open Go.Proofs.Tryz
variable{w:aq}{n kh:Nat}{H:Type}{spare:Nat->Bool}{held:Bool}{enc:aY×aB->H}
open Go.ChangeAt Go.ChangeShapes Go.Deep Go.WideShapes
def Hs:laidOutB ai=M:=aW
def R6(d:DataW H):1<=Rows.uptoBulk d:=by
 cases d with
 |lit l=>cases l<;>simp[Rows.uptoBulk]
 |_=>simp[Rows.uptoBulk]
def R5(l:av (DataW H)):l.length<=Rows.uptoBulkAll l:=by
 induction l with
 |nil=>simp[Rows.uptoBulkAll]
 |cons x r a=>have:=R6 x;simp only[Rows.uptoBulkAll,gH];omega
def afE{z}(h:(Lit.int .i64 z).wf=M):dy z:=by simp[Lit.wf,IntKind.min,IntKind.max,IntKind.signed,IntKind.bits]at h;omega
def RK(b mt i):(⟨b,mt,aj⟩:Addr).add i=⟨b,mt+i,aj⟩:=by
 unfold Addr.add
 grind
def ltP{b mt v}(h:kD w (F b mt)=Z v):b<w.1.size:=by refine ny λa=>?_;have:w.1[b]? =aj:=vC Y;simp[gp,this]at h
def IL{base}{na t st a len x}(E:ai.underlying st=Z (.slice t))(B:ai.cellsOf t=n)(h0:0<n)(u:∀na cs x,asB enc ai w base spare held na t cs=Z x->∀j,j<n->∃z,dy z/\cs[j]? =Z (I z))(o:Rows.uptoBulk x.1<=1048576)(h:asB enc ai w base spare held na st [ζ a len kh]=Z x):len<=1048576/\(len=0\/∃b mt,a=Z ⟨b,mt,aj⟩/\b<w.1.size/\∀i,i<len->∀j,j<n->∃z,dy z/\kD w (F b (mt+i*n+j))=Z (I z)):=by
 obtain⟨f,_⟩|⟨l,R,K,m,k,D,J,f,_,P,hm,A,G,s⟩:=open_slice E h;simp at f
 grind
 simp at f;obtain⟨rfl,rfl,rfl⟩:=f
 let v:len<=1048576:=by
  rw[G]at o;simp only[Rows.uptoBulk]at o;have:=R5 ((dA len).map D)
  grind
 refine⟨v,?_⟩
 by_cases c:len=0
 ·exact aA c
 right;let Q:len<=m:=by rw[A];split<;>omega
 rw[B]at s
 let q:∀i,i<len->∀j,j<n->∃z,dy z/\kD w ((l.add (i*n)).add j)=Z (I z):=λi p j g=>by
  obtain⟨L,c,e⟩:=s i Y;obtain⟨z,d,O⟩:=u _ _ _ e j g;let N:=(World.cells?_some c).2.2 j g
  grind
 obtain⟨b,mt,spot⟩:=l
 have C:spot=aj:=by obtain⟨z,_,d⟩:=q 0 Y 0 h0;simp only[xX,Addr.add,dN]at d;simpa using World.cell?_spot d
 subst C
 let r:∀i,i<len->∀j,j<n->∃z,dy z/\kD w (F b (mt+i*n+j))=Z (I z):=λi p j g=>by obtain⟨z,c,e⟩:=q i p j g;rw[RK,RK]at e;exact⟨z,c,e⟩
 exact⟨b,mt,U,by obtain⟨z,_,d⟩:=r 0 Y 0 h0;exact ltP d,r⟩
def Vy{base}(na cs)(x:DataW H×av MemPlace)(e:asB enc ai w base spare held na 3 cs=Z x):∀j,j<1->∃z,dy z/\cs[j]? =Z (I z):=λj b=>by obtain⟨k,rfl,_,a⟩:=DataW.trod_int underlying3 e;obtain rfl:j=0:=Y;exact⟨k,afE a,U⟩
def Pb{base}(na cs)(x:DataW H×av MemPlace)(h:asB enc ai w base spare held na 46 cs=Z x):∀j,j<4->∃z,dy z/\cs[j]? =Z (I z):=by
 obtain⟨c,n,_,_,d,f,a⟩:=DataW.trod_struct underlying46 h;rw[show ai.cellsOf 46=4 by kernel_rfl]at d;let g:c.length=4:=f
 let one:∀j,j<4->asB enc ai w base spare held n 3 ((cs.drop j).take (ai.cellsOf 3))=c[j]? ->∃z,dy z/\cs[j]? =Z (I z):=λj b e=>by rw[dj Y,show ai.cellsOf 3=1 by kernel_rfl]at e;simpa using Vy _ _ _ e 0 Y
 exact λj b=>match j,b with
  |0,h=>one 0 h (a 0 _ U)
  |1,h=>one 1 h (a 1 _ U)
  |2,h=>one 2 h (a 2 _ U)
  |3,h=>one 3 h (a 3 _ U)
def pY:av aZ:=[55,24,27,56,57,94,65,110,39,25,40,38,20,18,53,49,50,51,52,90,91,92,93,137,66,36,37,33,34,59,60,100,102,62,63,64,304,81,111,71,72,73,68,74,69,70,54,96,151,152,153,103,104,105,106,77,107,108,109,119,120,115,112,116,117,113,114,188,189,75,192,193,159,160,161,162,163,164,165,166,167,168,169,172,171,170,78,201,225,190,191,202,232,233,195,196,197,198,199,200,203,204,205,206,207,208,209,210,211,212,226,228,229,230,231,237,238,224,234,235,236,239,240,241,242,243,244,245,227,260,261,262,263,264,265,266,267,268,269,270,273,274,275,276,277,278,279,280,281,282,284,285,286,287,21,67,30,31,41,76,43,42,58,95]
def Hc:av aZ:=[61,26,98,22,16,17,11,28,29]
def okL:pY.all (Mb ai pY)=M:=aW
def acS:Hc.all (Mr ai)=M:=aW
def Q0:pY.all (λf=>(dR f).isEmpty)=M:=aW
def GH(t:Nat->aV Obj):@vb (xd ai pY Hc dR t) ai pY:=abb akF adH okL acS Q0
def abO(t:Nat->aV Obj):@wH (xd ai pY Hc dR t) pY:=by
 letI:an:=xd ai pY Hc dR t
 let o:∀f,pY.contains f=M->an.ok f:=λf a=>((GH t).it.ok f).2 a;exact⟨⟨GH t,(by first|exact az aM|exact aA (o _ aW)),(by first|exact az aM|exact aA (o _ aW)),(by first|exact az aM|exact aA (o _ aW))⟩,⟨GH t,aW,o _ aW,o _ aW,az aW,aW,aW,aW,aW,U,U⟩,λf a=>let h:=o f (nA.1 (by kernel_rfl:List.all _ pY.contains=M) f a);⟨h,aA h⟩,az aW⟩
section
variable (W:aq)
def OD{a len}(h:len=0\/∃b mt,a=Z ⟨b,mt,aj⟩/\b<W.1.size/\∀i,i<len->∀j,j<4->∃z,dy z/\kD W (F b (mt+i*4+j))=Z (I z)):@wN (xd ai pY Hc dR (λb=>W.1[b]?)) a len:=by
 obtain h|⟨b,mt,rfl,d,g⟩:=h;exact aA h
 classical
 refine az ⟨b,mt,W.1[b],λi j=>if c:i<len/\j<4 then asI (g i c.1 j c.2)else 0,U,gi d,λi c j e=>?_⟩;let f:=asC (g i c j e);simp only[wy (⟨c,e⟩:i<len/\j<4)];exact⟨f.1,λw k=>(iO (k.E (gi d).y)).E f.2⟩
def agS{a len}(h:len=0\/∃b mt,a=Z ⟨b,mt,aj⟩/\b<W.1.size/\∀i,i<len->∀j,j<1->∃z,dy z/\kD W (F b (mt+i*1+j))=Z (I z)):@Af (xd ai pY Hc dR (λb=>W.1[b]?)) a len:=by
 obtain h|⟨b,mt,rfl,d,f⟩:=h;exact⟨λ_=>0,aA h⟩
 classical
 refine⟨λi=>if c:i<len then asI (f i c 0 Y)else 0,az ⟨b,mt,W.1[b],U,gi d,λi c=>?_⟩⟩;let e:=asC (f i c 0 Y);simp only[wy c];exact⟨e.1,λw g=>(iO (g.E (gi d).y)).E (by simpa using e.2)⟩
end
def ard[an](v0 v1 s)(z:Int)(ρ j)(v:aB)(h:(ba ai 11 #[v0,v1,.string s,I z] .normal).tmps[j]? =Z v)(b:j∉dR 11):VR ρ v v:=
 Di func11 (body:=nS f11) aW (λi v h a ρ=>by
  match i,a with
  |0,a=>exact absurd aM a
  |1,a=>exact absurd aM a
  |2,_=>simp at h;subst h;exact λg _=>by simp[rv]
  |3,_=>simp at h;subst h;exact λg _=>by simp[rv]
  |n+4,_=>simp at h) ρ j v h b
def aqE(os:Os)(bg:os.Started)(H:Type)(enc:aY×aB->H)(K:Stop.Interp):
  ReturnsInLeavingWide {} checked os 11 .any ((Rows.OpenSpec.upto Rows.apartSpec).pre6 enc ai f11 Rows.apartUptoRow.domain aa) (((Rows.OpenSpec.upto Rows.apartSpec).at K).post enc ai f11 aa M aa aa):=by
 refine agm U aeR bg func11
  (OpenSpec.witness (C:=checked) (s:=Rows.OpenSpec.upto Rows.apartSpec) (k:=Rows.uptoSmall) U aa ⟨#[],#[ζ aj 0 0,ζ aj 0 0,.string ⟨#[]⟩,I 0],[]⟩ 11 aW aW aW
   (x:=([.nil,.nil,.lit (.string []),.lit (.int .i64 0)],[],[])) aW U aW) ?_
 intro W base args O gs bp aE A r _ V _;have Q:=r;obtain⟨p,q,n,P,rfl,bz,bA⟩:=r;have l:DataW.TrodAll enc ai W 0 (λ_=>M) M f11.params.toList args.toList O p:=n;have g:∀(j:Nat) t v,f11.params[j]? =Z t->args[j]? =Z v->Value.okWide ai W .any base t v:=A;rw[params11]at l g;obtain⟨G,bD,d0,bq,E,q0,bw,rfl,rfl,h0,r0⟩:=trodAll_cons l;obtain⟨J,bE,d1,bt,p1,q1,rfl,rfl,rfl,i,r1⟩:=trodAll_cons r0;obtain⟨v2,_,_,_,p2,_,rfl,rfl,rfl,h2,r2⟩:=trodAll_cons r1;obtain⟨v3,_,_,_,p3,_,rfl,rfl,rfl,h3,r3⟩:=trodAll_cons r2;obtain⟨rfl,rfl,rfl⟩:=trodAll_nil r3;obtain rfl:args=#[G,J,v2,v3]:=by cases args;simp_all
 obtain⟨rfl,rfl⟩:=trodVars_none P
 have z:Rows.uptoBulk d0<=1048576/\Rows.uptoBulk d1<=1048576:=by have h:=mM V;simp only[lf,Rows.uptoBulkAll]at h;omega
 obtain⟨a0,aL,L,rfl⟩:=okWide_slice underlying25 (g 0 25 G U U);obtain⟨a1,aN,N,rfl⟩:=okWide_slice underlying26 (g 1 26 J U U);have B:=h0;have D:=i;have aQ:∀x∈E,x.block<W.1.size:=by obtain⟨m,hm⟩:=B;exact asN m _ _ _ hm
 have aS:∀x∈p1,x.block<W.1.size:=by obtain⟨m,hm⟩:=D;exact asN m _ _ _ hm
 have l2:∀x∈p2,x.block<W.1.size:=by obtain⟨m,hm⟩:=h2;exact asN m _ _ _ hm
 have l3:∀x∈p3,x.block<W.1.size:=by obtain⟨m,hm⟩:=h3;exact asN m _ _ _ hm
 obtain⟨s,rfl⟩:=okWide_string underlying9 (g 2 9 v2 U U);have k2:=h2;have k3:=h3;have hs:s.size<=9223372036854775807:=by obtain⟨_,hf⟩:=h2;obtain⟨_,e,_,h⟩:=DataW.trod_string underlying9 hf;simp[zR]at e;subst e;exact Nat.le_trans h aM
 obtain⟨z',rfl⟩:=okWide_int underlying3 (g 3 3 v3 U U);have hz:dy z':=by obtain⟨_,hf⟩:=h3;obtain⟨k,e1,_,e2⟩:=DataW.trod_int underlying3 hf;simp[zR]at e1;rw[e1];exact afE e2
 obtain⟨af,yJ⟩:=(by obtain⟨na,a⟩:=h0;exact IL (kh:=L) (x:=(d0,E)) underlying25 aW aM Vy z.1 (by simpa[zR]using a):aL<=1048576/\_);obtain⟨ah,Vk⟩:=(by obtain⟨na,a⟩:=i;exact IL (kh:=N) (x:=(d1,p1)) underlying26 aW aM Pb z.2 (by simpa[zR]using a):aN<=1048576/\_);clear n A
 letI:an:=xd ai pY Hc dR (λb=>W.1[b]?)
 letI:oM:=⟨0⟩
 have T:ai.globals.size<=W.1.size:=by obtain⟨o,_,ho,_⟩:=aE.2 ai.globals.size (aR _) (mM aW);exact oI (bf.1 ho).1
 refine agF U U (R:=λe u'=>e=aG (ω M)) (λρ j v=>ard _ _ _ _ ρ j v) func11 (c:=nS f11) aW U aW (az aW) T (λb o S=>S) (uS (abO _) (az aW) (az aW) (λf a=>have h:=((GH _).it.ok f).2 (nA.1 (by kernel_rfl:List.all _ pY.contains=M) f a);⟨h,aA h⟩) (cM af aM) (agS W yJ) (OD W Vk) ah hz hs) (λe u h=>⟨_,h⟩) ?_;intro v u' w' hv X aH aC aD aJ;have d:aK W w':=⟨aC,aJ,aD,aH,X⟩;cases hv;exact⟨_,_,_,[],_,[],Q,trodAll_mk1 (shut_bool underlying4 _),(trodAll_cons_mk (Below.trod Hs aW (mM aW) B d aQ) (trodAll_cons_mk (Below.trod Hs aW (mM aW) D d aS) (trodAll_cons_mk (Below.trod Hs aW (mM aW) k2 d l2) (trodAll_cons_mk (Below.trod Hs aW (mM aW) k3 d l3) trodAll_mk0)))),U,d.frame _,λh=>by cases h⟩
theorem apart_holds:Rows.ApartUptoSaid:=
 acw 11 f11 U U U U U U U ⟨U,U,U,U,U⟩ U U U U U aW func11 aW
  (mM aW) (by unfold Func.isWrapper;first|(rw[aO (by decide+kernel)];kernel_rfl)|(rw[aI (by decide+kernel)];exact⟨rfl,rfl⟩))
  (λos b H enc _ a=>aqE os b H enc a)
#print axioms apart_holds
end Go.Proofs.YtpobhljcainmdaaGreat
