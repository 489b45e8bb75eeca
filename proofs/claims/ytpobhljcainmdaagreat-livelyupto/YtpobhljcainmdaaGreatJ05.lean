/- Parts of the proof. -/
import Derived.Test.YtpobhljcainmdaaGreatJ04
set_option maxRecDepth 100000
set_option maxHeartbeats 8000000
set_option linter.all false
namespace Go.Proofs.YtpobhljcainmdaaGreat
open Go.IntKind renaming i64->cJ,u8->BM,wrap_i64->vL
open _root_.UInt8 renaming ofNat->ji
open Go renaming World->aq,Value->aB,FuncId->aZ,run_convert_bytes_back->yd,wpList_append_lies->Re,TypeId->aY,info_parts->nG,maxLen->cP,Addr->iL
open _root_.ByteArray renaming empty->rF
open Go.World renaming ownsRow_nil->qH,news_of_block->wu,ownsRow->KO
open Go.Calls renaming quiet_of_same->ur
open _root_.List renaming replicate->rP,range->dA,length->BU,perm_append_comm->C4,length_pos_iff->B8,extract->Qv,nodup_range->C3,cons_ne_nil->A3
open Go.Value renaming ownBlock->lW,oneCell'->zS,int->BX
open _root_.Int renaming mul_tdiv_cancel_left->l8
open _root_.Option renaming map->gI
open _root_.Bool renaming or_eq_false_iff->Zv
open Go.ConcR renaming Payload->oM
open _root_.Nat renaming mul_le_mul_left->E8,eq_or_lt_of_le->E2,le_antisymm->E6
open Go.Region renaming wanted->cY
open _root_.List.Pairwise renaming nil->y9
open Go.RowKit renaming intOf->dw
open Go.Oper renaming wp->tr
open Go renaming undef->y
open Go.Ending renaming returned->aG
open Go.Obj renaming cells->au
open _root_.Bool renaming false->aa,true->M
open _root_.Option renaming none->aj,some->Z
open _root_.Or renaming inl->aA,inr->az
open Go.Proofs.Tryz
structure Fx.mw(f:Fx):Prop where
 core:f.Core
 clock:f.clock<=1073741824
 bO:(f.bO:Int)<=8*(f.clock-1)+f.fl.length
 log:(f.log.length:Int)<=64*f.clock
 C:(f.C.length:Int)<=512*f.clock
 acc:f.acc<=64*f.clock
section
variable {f:Fx}
def aeT{l:av Jb}(h:l.Pairwise λa b=>a.order≠b.order):∀(i j:Nat) (b c:Jb),l[i]? =Z b->l[j]? =Z c->b.order=c.order->i=j:=by
 induction l with
 |nil=>intro i j b c d;simp at d
 |cons a l k=>let⟨e,g⟩:=sY.1 h;grind
def Ck.In.go{g c}{k:Ck}(a:g.Is)(h:k.In g c)(hc:c<=1073741824)(n:0<=k.prom)(hf:0<=k.bw/\k.bw<=64)(hd:k.de<=288):k.Go:=by have b:=h.out;have d:=a.ou;have e:=h.tok;have i:=h.de;have j:=h.sv;have l:=h.len;have m:=a.qu;exact⟨Y,Y,λr hr=>(h.q r hr).ok a,Y,Y,Y,Y⟩
def Fx.mw.Bq(h:f.mw):f.Al/\(∀k,f.K[f.aC]? =Z (Z k)->k.q.length<=1048576)/\f.g.cl=f.K.length/\f.K.length<=65535/\1<=f.g.wk:=by have a:=h.core;have c:=a.g;have Q:=a.small;have J:=a.kA;have p:=c.wk;have P:=c.qu;have O:=c.qn;have L:=c.mx;have N:=c.ou;have E:=a.clock;have n:=h.clock;have G:=h.bO;have H:=a.dG.1;refine⟨⟨⟨⟨λk d=>?_,λb i=>?_,Y,Y,aeT a.pq⟩,Y,λb i=>(a.fresh b i).1,Y,Y,a.bD.1,Y,Y⟩,a.aC,Y,λk d=>?_⟩,λk d=>?_,a.len.symm,Y,p.1⟩;let⟨s,o⟩:=pJ.1 d;let⟨e,u,v⟩:=a.cl s k o;have l:=e.out;have m:=a.prom s;exact⟨Y,Y,λr hr=>(e.q r hr).ok c⟩;let⟨a1,j,_⟩:=a.jb b i;exact⟨λx t=>(a1.gd x t).ok c,Y⟩;let⟨e,u,v⟩:=a.cl _ k d;let⟨a1,j,a3,w,z,A,B⟩:=a.Jq d;have l:=a.de _ k d;have m:=e.wt;have C:=a.prom f.aC;have D:=a.bw f.aC;refine⟨Y,⟨e.de,by split at l<;>omega⟩,a1.go c n Y Y j⟩;have:=(a.cl _ k d).1.len;omega
def Bs{k}(a:f.K[f.aC]? =Z (Z k)):f.bg=if(f.turned k).free (f.aT k)then(if cw (f.aT k).fst.m<=(f.aT k).de then((f.turned k).gN f.aC<|f.aT k,M)else(f.turned k,aa))else((f.turned k).at f.aC (f.aT k).lose,aa):=by unfold Fx.bg;rw[a]
def Js(a:∀k,f.K[f.aC]? ≠Z (Z k)):f.bg=(f,aa):=by unfold Fx.bg;split<;>grind
def Pw{k}(h:f.Core):(f.turned k).K[(f.turned k).aC]? =Z (Z<|f.aT k):=by show(f.K.set f.aC<|Z<|f.aT k)[f.aC]? =_;rw[rM,aO U,aO h.aC]
def Fx.Core.pass(h:f.Core)(hd:∀k,f.K[f.aC]? =Z (Z k)->k.de<=32):f.pass.Core:=by refine⟨h.g,h.len,?_,h.cl,λs k b=>?_,h.lI,h.one,h.jb,h.sorted,h.pq,h.fresh,h.kA,h.clock,h.B,h.bD,h.acc,h.bF⟩;show(f.aC+1)%f.K.length<f.K.length;have:=h.aC;exact Nat.mod_lt _ Y;have a:=b;show k.de<=(if s=(f.aC+1)%f.K.length/\aa=M then 288 else 32);rw[aI ay];by_cases e:s=f.aC;rw[e]at a;exact hd k a;have:=h.de s k a;rwa [aI<|λx=>e x.1]at this
def Fx.Core.lose(h:f.Core){k}(b:f.K[f.aC]? =Z (Z k)):(f.at f.aC k.lose).Core:=by let⟨a,d,e⟩:=h.cl _ k b;refine h.put b ⟨a.ph,a.wt,a.aN,a.q,a.len,a.out,a.tok,fI 0,a.sv,a.us⟩ U U U ?_ λt x _ c=>h.de t x c;show(0:Int)<=_;split<;>omega
end
def vw:Abides Fx.mw:=by
 refine⟨λf h=>h.Bq,λf h s b=>?_,λf h b=>?_⟩;by_cases e:∃k,f.K[f.aC]? =Z (Z k);let⟨k,a⟩:=e;rw[Bs a]at b⊢;split at b;rename_i c;rw[aO c];split at b;rename_i d;rw[aO d];have j:(f.aT k).eM (f.turned k).g=M:=by unfold Fx.free at c;grind
 refine⟨((h.core.turned a).gN U (Pw h.core) j d s),h.clock,?_,h.log,h.C,h.acc⟩;show((f.bO+1:Nat):Int)<=8*(f.clock-1)+((fP _ f.fl).length:Int);rw[Vw];have:=h.bO;omega;cases b;cases b;rw[Js<|λk a=>e ⟨k,a⟩]at b;cases b;by_cases e:∃k,f.K[f.aC]? =Z (Z k);let⟨k,a⟩:=e;rw[Bs a]at b⊢;split at b;rename_i c;rw[aO c];split at b;cases b;rename_i d;rw[aI d];refine⟨(h.core.turned a).pass λx m=>?_,h.clock,h.bO,h.log,h.C,h.acc⟩;have n:=(Pw h.core).symm.trans m;cases n;have j:(f.aT k).eM f.g=M:=by unfold Fx.free at c;rw[cQ]at c;exact c.1
 let⟨r,l,t,o,_⟩:=yT j;have:=((h.core.Jq a).1.q r j4).cost h.core.g;have:=h.core.g.mx;rw[o]at d;omega;rename_i c;rw[aI c];refine⟨((h.core.turned a).lose<|Pw h.core).pass λx m=>?_,h.clock,h.bO,h.log,h.C,h.acc⟩;rcases oy m with⟨_,i⟩|⟨i,_⟩;rw[i];show(0:Int)<=32;omega;exact absurd rfl i;rw[Js<|λk a=>e ⟨k,a⟩];refine⟨h.core.pass λk a=>absurd ⟨k,a⟩ e,h.clock,h.bO,h.log,h.C,h.acc⟩
structure Fx.Rest(f:Fx):Prop where
 core:f.Core
 bO:(f.bO:Int)<=8*f.clock
 log:(f.log.length:Int)<=64*f.clock
 C:(f.C.length:Int)<=512*f.clock
 acc:f.acc<=64*f.clock
section
variable {f:Fx}
def xD{K:av (aV Ck)}{j t x}(h:(K.set j aj)[t]? =Z (Z x)):t≠j/\K[t]? =Z (Z x):=by grind
def Fx.Core.leave(h:f.Core){j o}(p:∀b∈f.fl,b.s≠j)(q:o=f.opn\/f.aC=j):({f with K:=f.K.set j aj,opn:=o}:Fx).Core:=by refine⟨h.g,?_,?_,λs k a=>h.cl s k (xD a).2,λs k a=>?_,λs k a=>h.lI s k (xD a).2,λs t k i a d e=>h.one s t k i (xD a).2 (xD d).2 e,λb c=>?_,h.sorted,h.pq,h.fresh,h.kA,h.clock,h.B,h.bD,h.acc,h.bF⟩;show((f.K.set j aj).length:Int)=f.g.cl;rw[jB];exact h.len;show f.aC<(f.K.set j aj).length;rw[jB];exact h.aC;have n:=h.de s k (xD a).2;grind;let⟨a1,l,a3,k,m⟩:=h.jb b c;grind
def Fx.Core.dP(h:f.Core)(j):(f.dP j).Core:=by unfold Fx.dP;split;rename_i k d;split;rename_i c;refine h.leave (λb a e=>?_) ?_;have:=h.stay b a k j4;grind;by_cases e:f.aC=j;exact az e;rw[aI e];exact aA U;exact h;exact h
def abU(f:Fx)(j):(f.dP j).clock=f.clock/\(f.dP j).bO=f.bO/\(f.dP j).log=f.log/\(f.dP j).C=f.C/\(f.dP j).acc=f.acc/\(f.dP j).stop=f.stop/\(f.dP j).bF=f.bF/\(f.dP j).g=f.g/\(f.dP j).B=f.B:=by unfold Fx.dP;split;split<;>exact⟨U,U,U,U,U,U,U,U,U⟩;exact⟨U,U,U,U,U,U,U,U,U⟩
def Fx.Core.bQ(h:f.Core):∀n,(f.bQ n).Core/\(f.bQ n).clock=f.clock/\(f.bQ n).bO=f.bO/\(f.bQ n).log=f.log/\(f.bQ n).C=f.C/\(f.bQ n).acc=f.acc/\(f.bQ n).stop=f.stop/\(f.bQ n).bF=f.bF/\(f.bQ n).g=f.g/\(f.bQ n).B=f.B
 |0=>⟨h,U,U,U,U,U,U,U,U,U⟩|n+1=>by obtain⟨a1,b,a3,c,d,e,i,j,k,a⟩:=Fx.Core.bQ h n;let⟨m,o,p,q,r,s,t,u,l⟩:=abU (f.bQ n) n;rw[uV];exact⟨a1.dP n,m.trans b,o.trans a3,p.trans c,q.trans d,r.trans e,s.trans i,t.trans j,u.trans k,l.trans a⟩
def Fx.Rest.bQ(h:f.Rest)(n):(f.bQ n).Rest:=by let⟨a1,a,a3,b,c,d,_⟩:=h.core.bQ n;exact⟨a1,by rw[a,a3];exact h.bO,by rw[a,b];exact h.log,by rw[a,c];exact h.C,by rw[a,d];exact h.acc⟩
def TK:∀(n:Nat) (f:Fx),(Fx.fin n f).clock=f.clock
 |0,f=>rfl|n+1,f=>by unfold Fx.fin;split;rfl;split;exact(TK n _).trans (uR _ _).2.1;rfl
def YM(f:Fx):f.bg.1.clock=f.clock:=by unfold Fx.bg;split;split;split<;>rfl;rfl;rfl
def Py:∀(n p:Nat) (f:Fx),(Fx.turns n p f).clock=f.clock
 |0,_,f=>rfl|n+1,p,f=>by unfold Fx.turns;split;split;exact(Py n _ _).trans<|YM f;exact(Py n _ _).trans<|YM f;rfl
def Fx.Rest.early(h:f.Rest)(hc:f.clock<1073741824):f.early.goes.nK:=by
 let⟨l,g2,K,a,d⟩:=h.core.early.goes;have b:=Dh f;have r:=h.core.kA;have s:=h.core.g.wk;have n:=h.bO;have o:=h.log;have p:=h.C;have q:=h.acc;have c:f.early.goes.clock=f.clock+1:=by rw[d,b]
 have i:f.early.goes.bO=f.bO:=by rw[d,b]
 have j:f.early.goes.log=f.log:=by rw[d,b]
 have k:f.early.goes.C=f.C:=by rw[d,b]
 have e:f.early.goes.fl=f.fl:=by rw[d,b]
 have m:f.early.acc=f.acc:=by rw[b]
 exact⟨l,by rw[c];omega,by rw[c,i];omega,by rw[c,j,e];omega,by rw[c,k,e];omega,by rw[c];omega⟩
def Fx.Rest.ok(h:f.Rest)(hc:f.clock<1073741824):f.RE Fx.nK:=by
 have c:=h.core.g;have u:=h.core.small;have q:=h.core.clock;have a:=h.core.early;have r:=c.qu;have t:=c.rt;have p:=c.bu;have n:=h.core.acc;have o:=h.acc;have d:f.early.acc=f.acc:=by rw[Dh]
 refine⟨Y,Y,Y,Y,λs k b=>?_,λs k b=>?_,λs k b=>?_,by rw[d];omega,by have:=a.small;omega,h.early hc⟩;have:=(h.core.cl s k b).1.tok;omega;let⟨j,v,l⟩:=a.cl s k b;exact j.Ly a.g (by rw[l];exact a.prom s);have e:=(a.readAll.cl s k b).1.len;have m:=a.g.qu;have i:f.early.readAll.g=f.early.g:=U;rw[i]at e;omega
def Fx.nK.trn(h:f.nK):f.mw:=by have a:=h.bO;have b:=h.log;have c:=h.C;exact⟨h.core,h.clock,Y,Y,Y,h.acc⟩
def Fx.mw.rest(h:f.mw):f.Rest:=by have a:=h.bO;have b:=h.core.kA;have c:=h.core.g.wk;exact⟨h.core,Y,h.log,h.C,h.acc⟩
def YB(h:f.Rest)(b:f.early.goes.ends.takes.mw):f.tick.Rest/\f.tick.clock=f.clock+1:=by
 let⟨e,g2,K,a,d⟩:=h.core.early.goes;have c:f.early.goes.clock=f.clock+1:=by rw[d,Dh]
 refine⟨b.rest.bQ _,?_⟩;show(f.early.goes.ends.takes.bQ _).clock=_;rw[(b.core.bQ _).2.1];show(Fx.turns _ _<|Fx.fin _ f.early.goes).clock=_;rw[Py,TK,c]
end
def qz(φ:Nat->Nat):Nat:=φ 0+φ 1+φ 2+φ 3+φ 4+φ 5+φ 6+φ 7
def xG{φ ψ}(h:∀s,φ s<=ψ s){t x}(b:t<8)(c:φ t+x<=ψ t):qz φ+x<=qz ψ:=by have:=h 0;have:=h 1;have:=h 2;have:=h 3;have:=h 4;have:=h 5;have:=h 6;have:=h 7;unfold qz;grind
def Pf{φ ψ}(h:∀s,φ s<=ψ s):qz φ<=qz ψ:=xG (x:=0) h aM (h 0)
def aiM{φ ψ}(h:∀s,φ s<=ψ s)(e:qz ψ<=qz φ){t}(b:t<8):φ t=ψ t:=by have:=xG (x:=ψ t-φ t) h b j4;have:=h t;omega
def Pe{N X}(h:N<=8):qz (λs=>if s<N then X else 0)=N*X:=by have e:N=0\/N=1\/N=2\/N=3\/N=4\/N=5\/N=6\/N=7\/N=8:=Y;rcases e with e|e|e|e|e|e|e|e|e<;>subst e<;>simp[qz]<;>omega
def Ck.room(g:Cf)(k:Ck):Bool:=match k.q with|[]=>aa|r::_=>decide ((k.out.size:Int)+k.prom+sizeOf' r.m<=g.ou)
def Ck.old(m:Int)(k:Ck):av Rq:=k.q.filter λr=>decide (r.no<m)
def Ck.cA(g:Cf)(m:Int)(k:Ck):Nat:=2*(k.old m).length-if k.room g&&!(k.old m).isEmpty then 1 else 0
def AN(g:Cf)(m:Int):aV (aV Ck)->Nat
 |some (Z k)=>k.cA g m|_=>0
abbrev Fx.cA(f:Fx)(m:Int)(s:Nat):Nat:=AN f.g m f.K[s]?
def Fx.dH(f:Fx)(m:Int):Nat:=qz (f.cA m)
def Ck.Ord(a:Int)(k:Ck):Prop:=k.q.Pairwise (λx b=>x.no<b.no)/\∀r∈k.q,0<=r.no/\r.no<a
def nL(g:Cf)(m:Int)(k k':Ck):Prop:=∃x,k.old m=x++k'.old m/\(x=[]->k'.old m≠[]->k.room g=M->k'.room g=M)
section
variable {g:Cf} {m a:Int} {k k1 k':Ck} {f f1 f':Fx}
def Og:k.eM g=(decide (0<k.tok)&&k.room g):=by unfold Ck.eM Ck.room;cases k.q<;>simp
def IJ(h:k.room g=M):k.q≠[]:=λe=>by unfold Ck.room at h;rw[e]at h;cases h
def DH(h:k.old m=[]):k.cA g m=0:=by simp[Ck.cA,h]
def Nf(h:k.old m≠[]):1<=k.cA g m:=by have:=B8.2 h;unfold Ck.cA;split<;>omega
def nL.refl(k):nL g m k k:=⟨[],U,λ_ _ h=>h⟩
def nL.trans(h:nL g m k k1)(b:nL g m k1 k'):nL g m k k':=by let⟨x,c,n⟩:=h;let⟨i,d,o⟩:=b;refine⟨x++i,by rw[c,d,lS],λe p hr=>?_⟩;let⟨j,l⟩:=Fc.1 e;grind
def nL.cA(h:nL g m k k'):k'.cA g m<=k.cA g m/\(k'.cA g m=k.cA g m->k'.old m=k.old m/\(k.old m≠[]->k'.room g=k.room g)):=by let⟨x,c,b⟩:=h;unfold Ck.cA;rw[c];rcases x with _|⟨r,x⟩;rw[jZ];by_cases e:k'.old m=[];simp[e];have b:=b U e;have d:=B8.2 e;grind;simp;grind
def Ck.Ord.head(h:k.Ord a)(hm:k.old m≠[]):k.q≠[]/\k.fst.no<m/\(k.old m).head?=Z k.fst:=by
 unfold Ck.old at*;unfold Ck.fst;rcases e:k.q with _|⟨r,l⟩;rw[e]at hm;exact absurd rfl hm;rw[e]at hm;have hr:r.no<m:=by refine ny λc=>hm (Ff.2 λx hx=>?_);have b:=h.1;rw[e]at b;rcases jh.1 hx with rfl|hx;simpa using c;have:=(sY.1 b).1 x hx;simp;omega
 grind
def DV(b:k.q≠[])(h:k.fst.no<m):k.old m≠[]:=by unfold Ck.fst at h;rcases e:k.q with _|⟨r,l⟩;exact absurd e b;rw[e]at h;unfold Ck.old;grind
structure ij(m:Int)(f f':Fx):Prop where
 g:f'.g=f.g
 len:f'.K.length=f.K.length
 K:∀(t:Nat) k',f'.K[t]? =Z (Z k')->k'.old m=[]\/∃k,f.K[t]? =Z (Z k)/\nL f.g m k k'
def ij.refl(f):ij m f f:=⟨U,U,λt k h=>az ⟨k,h,.refl k⟩⟩
def ij.trans(h:ij m f f1)(b:ij m f1 f'):ij m f f':=by refine⟨b.g.trans h.g,b.len.trans h.len,λt k' n=>?_⟩;rcases b.K t k' n with e|⟨k1,i,c⟩;exact aA e;rcases h.K t k1 i with e|⟨k,j,l⟩;let⟨x,d,_⟩:=c;rw[e]at d;exact aA (Fc.1 d.symm).2;exact az ⟨k,j,l.trans (h.g▸c)⟩
def ij.cA(h:ij m f f')(t):f'.cA m t<=f.cA m t:=by
 show AN f'.g m f'.K[t]? <=_;rcases e:f'.K[t]? with _|o;exact cO _;cases o with
 |none=>exact cO _
 |some k'=>show k'.cA f'.g m<=_;rcases h.K t k' e with b|⟨k,b,c⟩;rw[DH b];exact cO _;show _<=AN f.g m f.K[t]?;rw[b,h.g];exact c.cA.1
def ij.dH(h:ij m f f'):f'.dH m<=f.dH m:=Pf h.cA
def wG(m:Int)(f f':Fx):Prop:=∀t,t<8->f'.cA m t=f.cA m t
def ij.calm(h:ij m f f')(e:f.dH m<=f'.dH m):wG m f f':=λt b=>aiM h.cA e b
end
def pW:aV (aV Ck)->Nat
 |some (Z k)=>k.de.toNat|_=>0
def Fx.Ord(f:Fx):Prop:=∀(t:Nat) k,f.K[t]? =Z (Z k)->k.Ord f.acc
structure jF(m:Int)(f f':Fx):Prop where
 jq:ij m f f'
 aC:f'.aC=f.aC
 opn:f'.opn=f.opn
 de:∀t:Nat,pW f'.K[t]? <=pW f.K[t]?
section
variable {g:Cf} {m a n:Int} {k k':Ck} {f f1 f':Fx} {s:Nat}
def jF.refl(f):jF m f f:=⟨.refl f,U,U,λ_=>aR _⟩
def jF.trans(h:jF m f f1)(b:jF m f1 f'):jF m f f':=⟨h.jq.trans b.jq,b.aC.trans h.aC,b.opn.trans h.opn,λt=>cM (b.de t) (h.de t)⟩
def Mr(b:k'.q=k.q)(c:(k'.out.size:Int)+k'.prom<=k.out.size+k.prom):nL g m k k':=by
 refine⟨[],by unfold Ck.old;rw[b];rfl,λ_ _ h=>?_⟩;unfold Ck.room at*
 grind
def NB:∀(l:av Rq) (n:Int),(∀r∈l,0<=r.no)->bL n l=(l,n)
 |[],n,_=>rfl|r::l,n,h=>by have c:=h r fJ;unfold bL;rw[aI Y,NB l n λx b=>h x (gC _ b)]
def WE:∀(l:av Rq) (n:Int),(∀r∈l,r.no= -1)->(bL n l).1.Pairwise (λx d=>x.no<d.no)/\n<=(bL n l).2/\∀r∈(bL n l).1,n<=r.no/\r.no<(bL n l).2
 |[],n,_=>⟨.nil,fI _,λr h=>acB⟩|r::l,n,h=>by obtain⟨c,e,b⟩:=WE l (n+1) λx hx=>h x (gC _ hx);unfold bL;rw[aO<|h r fJ];refine⟨sY.2 ⟨λx hx=>?_,c⟩,by show n<=(bL (n+1) l).2;omega,λx hx=>?_⟩;have:=b x hx;show n<x.no;omega;rcases jh.1 hx with rfl|hx;show n<=n/\n<(bL (n+1) l).2;omega;have:=b x hx;omega
def Iy(g):∀(n:Nat) (k:Ck),((Ck.read g n k).q=[]/\(Ck.read g n k).ph=4)\/∃l,(Ck.read g n k).q=k.q++l/\(∀r∈l,r.no= -1)/\(k.q≠[]->k.room g=M->(Ck.read g n k).room g=M)
 |0,k=>az ⟨[],by rw[lf];rfl,λr h=>acB,λ_ h=>h⟩|n+1,k=>by
  have i:∃l,k.q=k.q++l/\(∀r∈l,r.no= -1)/\(k.q≠[]->k.room g=M->k.room g=M):=⟨[],by rw[lf],λr h=>acB,λ_ h=>h⟩;unfold Ck.read;split;rename_i hm;dsimp only;split;exact az i;split;exact aA ⟨U,U⟩;have x:=RO (g:=g) (ph:=k.ph) (us:=k.us) (s:=k.aN);rcases Iy g n (k.hear g<|first g.sz g.mx k.ph k.us k.aN)with e|⟨l,o,p,u⟩;exact aA e;have w:∃b,(k.hear g<|first g.sz g.mx k.ph k.us k.aN).q=k.q++b/\∀r∈b,r.no= -1:=by show ∃b,(if accepted (first g.sz g.mx k.ph k.us k.aN).1 then k.q++[⟨(first g.sz g.mx k.ph k.us k.aN).1,-1⟩]else k.q)=_/\_;split;exact⟨_,U,λr h=>by rw[iz.1 h]⟩;exact⟨[],by rw[lf],λr h=>acB⟩
  let⟨b,d,j⟩:=w;refine az ⟨b++l,by rw[o,d,lS],λr h=>(jg.1 h).elim (j r) (p r),λv hr=>u j4 ?_⟩;unfold Ck.room;rw[d];rcases e:k.q with _|⟨r,t⟩;exact absurd e v;have c:=hm.2.2;rw[e]at c;have c:(k.out.size:Int)+k.prom+(6+sizeOf' r.m)<=g.ou:=c;show decide (((k.out++gM g (first g.sz g.mx k.ph k.us k.aN).1).size:Int)+k.prom+sizeOf' r.m<=g.ou)=M;grind;exact az i
def Ck.Ord.goes(h:k.Ord a)(h0:0<=a)(p:a<=n)(hm:m<=a):(((k.dh g).dQ g).num n).Ord (bL n ((k.dh g).dQ g).q).2/\nL g m k (((k.dh g).dQ g).num n)/\n<=(bL n ((k.dh g).dQ g).q).2:=by
 have o:=(DT ((k.dh g).dQ g).q n).1;rcases Iy g (k.aN.size+1) (k.dh g)with⟨e,_⟩|⟨l,i,z,A⟩;have e:((k.dh g).dQ g).q=[]:=e;have b:(((k.dh g).dQ g).num n).q=[]:=by show(bL n ((k.dh g).dQ g).q).1=[];rw[e];rfl
 refine⟨⟨by rw[b];exact .nil,λr hr=>by rw[b]at hr;cases hr⟩,⟨k.old m,?_,λ_ p=>absurd ?_ p⟩,o⟩;unfold Ck.old;rw[b];simp;unfold Ck.old;rw[b];rfl;have i:((k.dh g).dQ g).q=k.q++l:=i;let⟨E,H,w⟩:=WE l n z;have b:bL n ((k.dh g).dQ g).q=(k.q++(bL n l).1,(bL n l).2):=by rw[i,Ny,NB k.q n λr hr=>(h.2 r hr).1]
 have d:(((k.dh g).dQ g).num n).q=k.q++(bL n l).1:=by show(bL n ((k.dh g).dQ g).q).1=_;rw[b]
 have j:((((k.dh g).dQ g).num n).old m)=k.old m:=by
  have D:(bL n l).1.filter (λr=>decide (r.no<m))=[]:=Ff.2 λr hr=>by grind
  unfold Ck.old;rw[d,zF,D,lf]
 refine⟨⟨?_,λr hr=>?_⟩,⟨[],by rw[j];rfl,λ_ u hr=>?_⟩,o⟩;rw[d];refine Kt.2 ⟨h.1,E,λx B G C=>?_⟩;have:=(h.2 x B).2;have:=(w G C).1;omega;rw[d]at hr;rw[b];show 0<=r.no/\r.no<(bL n l).2;rcases jg.1 hr with hr|hr;have:=h.2 r hr;omega;have:=w r hr;omega;rw[j]at u;have v:k.q≠[]:=λe=>u (by unfold Ck.old;rw[e];rfl);have c:=A v hr;unfold Ck.room at c⊢;rw[d];have c:(match((k.dh g).dQ g).q with|[]=>aa|r::_=>decide ((((k.dh g).dQ g).out.size:Int)+((k.dh g).dQ g).prom+sizeOf' r.m<=g.ou))=M:=c;rw[i]at c;rcases e:k.q with _|⟨r,t⟩;exact absurd e v;rw[e]at c;exact c
end
section
variable {g:Cf} {m:Int} {k k1 k':Ck} {f f':Fx}
def WB(f):∀n,n<=f.K.length->∃K a,(dA n).foldl Fx.eV f={f with K:=K,acc:=a}/\K.length=f.K.length/\f.acc<=a/\∀(t:Nat) k',K[t]? =Z (Z k')->∃k,f.K[t]? =Z (Z k)/\((n<=t/\k'=k)\/(t<n/\∃i,f.acc<=i/\(bL i k.q).2<=a/\k'=k.num i))
 |0,_=>⟨f.K,f.acc,U,U,fI _,λt k h=>⟨k,h,aA ⟨cO _,U⟩⟩⟩|n+1,u=>by
  obtain⟨K,a,c,p,r,d⟩:=WB f n Y;rw[uB,zG,c];show ∃j l,Fx.eV {f with K:=K,acc:=a} n=_/\_;by_cases e:∃k,K[n]? =Z (Z k);let⟨k,b⟩:=e;let⟨v,w,x⟩:=d n k b;have s:=(DT k.q a).1;rw[DS b];grind;have o:Fx.eV {f with K:=K,acc:=a} n={f with K:=K,acc:=a}:=by unfold Fx.eV;grind
  grind
def UB(h:f.Core)(p:f.Ord)(H:f.stop=aa)(hm:m<=f.acc):jF m f f.early.goes/\f.early.goes.Ord/\(∀(t:Nat) k',f.early.goes.K[t]? =Z (Z k')->1<=k'.tok/\∃k i,f.K[t]? =Z (Z k)/\k'=((k.dh f.g).dQ f.g).num i)/\∃K a,f.early.goes={f with clock:=f.clock+1,K:=K,acc:=a}/\f.acc<=a:=by
 have l:=Dh f;have A:f.early.goes=f.early.readAll.mG:=by unfold Fx.goes;rw[aI j4]
 let⟨K,a,v,E,G,w⟩:=WB f.early.readAll _ (aR _);have e:=A.trans v;have x:f.early.readAll.K=f.K.map λo=>o.map λk=>(k.dh f.g).dQ f.g:=by show f.early.K.map (λo=>o.map (Ck.dQ f.early.g))=_;rw[l];simp[ES]
 have u:f.early.goes={f with clock:=f.clock+1,K:=K,acc:=a}:=by rw[e,l];rfl
 have z:f.acc<=a:=by have:f.early.readAll.acc=f.acc:=by(rw[l];rfl)
                     omega
 have at_:∀(t:Nat) k',K[t]? =Z (Z k')->∃k i,f.K[t]? =Z (Z k)/\f.acc<=i/\(bL i ((k.dh f.g).dQ f.g).q).2<=a/\k'=((k.dh f.g).dQ f.g).num i:=λt k' c=>by
  let⟨k1,b,d⟩:=w t k' c;rw[x]at b;obtain⟨k,j,rfl⟩:=map_some b;rcases d with⟨d,_⟩|⟨_,i,J,C,D⟩;have:=(bY.1 c).1;omega;refine⟨k,i,j,?_,C,D⟩;have:f.early.readAll.acc=f.acc:=by rw[l];rfl
  omega
 rw[u];refine⟨⟨⟨U,j4,λt k' c=>?_⟩,U,U,λt=>?_⟩,λt k' c=>?_,λt k' c=>?_,K,a,U,z⟩;obtain⟨k,i,b,d,j,rfl⟩:=at_ t k' c;exact az ⟨k,b,((p t k b).goes h.acc d hm).2.1⟩;show pW K[t]? <=_;rcases e1:K[t]? with _|o;exact cO _;cases o with
 |none=>exact cO _
 |some k'=>obtain⟨k,i,b,d,j,rfl⟩:=at_ t k' e1;have n:((k.dh f.g).dQ f.g).de=k.de:=(Iz f.g _<|k.dh f.g).2.2.2.2.1;show((k.dh f.g).dQ f.g).de.toNat<=_;rw[n,b];exact aR _
 obtain⟨k,i,b,d,j,rfl⟩:=at_ t k' c;let⟨s,_,_⟩:=(p t k b).goes (g:=f.g) (m:=m) h.acc d hm;exact⟨s.1,λr hr=>by have:=s.2 r hr;show 0<=r.no/\r.no<a;omega⟩;obtain⟨k,i,b,d,j,rfl⟩:=at_ t k' c;have n:((k.dh f.g).dQ f.g).tok=(k.dh f.g).tok:=(Iz f.g _<|k.dh f.g).2.2.2.2.2.1;refine⟨?_,k,i,b,U⟩;show 1<=((k.dh f.g).dQ f.g).tok;rw[n];show 1<=min (k.tok+f.g.rt) f.g.bu;have:=(h.cl t k b).1.tok;have:=h.g.rt;have:=h.g.bu;omega
def Ml:∀(n:Nat) (f:Fx),f.nK->(Fx.fin n f).g=f.g/\(Fx.fin n f).K.length=f.K.length/\(Fx.fin n f).aC=f.aC/\(Fx.fin n f).opn=f.opn/\(Fx.fin n f).acc=f.acc/\∀(t:Nat) k',(Fx.fin n f).K[t]? =Z (Z k')->∃k,f.K[t]? =Z (Z k)/\k'.q=k.q/\k'.tok=k.tok/\k'.de=k.de/\(k'.out.size:Int)+k'.prom<=k.out.size+k.prom
 |0,f,_=>⟨U,U,U,U,U,λt k h=>⟨k,h,U,U,U,fI _⟩⟩|n+1,f,h=>by unfold Fx.fin;split;exact⟨U,U,U,U,U,λt k h=>⟨k,h,U,U,U,fI _⟩⟩;rename_i b r e;split;rename_i p;obtain⟨⟨k,d,_⟩,_,o⟩:=wY.does f b r h e p;have a:=CZ (({f with fl:=r}:Fx).dk.change b.rs b.ft).B b.ft (b.rs.take b.rs.length) k (by rw[pM];exact ((h.core.jb b j4).1).gd);let⟨v,w,x,z,A,C⟩:=Ml n _ o;rw[sE (f:={f with fl:=r}) d]at*;refine⟨v,w.trans ay,x,z,A,λt k' s=>?_⟩;let⟨k1,c,i,j,l,D⟩:=C t k' s;rcases oy c with⟨rfl,rfl⟩|⟨E,c⟩;exact⟨k,d,i.trans a.q,j.trans a.tok,l.trans a.de,by have:=a.out;omega⟩;exact⟨k1,c,i,j,l,D⟩;exact⟨U,U,U,U,U,λt k h=>⟨k,h,U,U,U,fI _⟩⟩
def Nd(d:f'.g=f.g)(hl:f'.K.length=f.K.length)(i:f'.aC=f.aC)(h:f'.opn=f.opn)(b:∀(t:Nat) k',f'.K[t]? =Z (Z k')->(k'.q=[]/\k'.de=0)\/∃k,f.K[t]? =Z (Z k)/\((k'.q=k.q/\(k'.out.size:Int)+k'.prom<=k.out.size+k.prom)\/k'.q=[])/\k'.de=k.de):jF m f f':=by
 refine⟨⟨d,hl,λt k' j=>?_⟩,i,h,λt=>?_⟩;rcases b t k' j with⟨e,_⟩|⟨k,a,h2|h2,_⟩;exact aA (by unfold Ck.old;rw[e];rfl);exact az ⟨k,a,Mr h2.1 h2.2⟩;exact aA (by unfold Ck.old;rw[h2];rfl);rcases e1:f'.K[t]? with _|o;exact cO _;cases o with
 |none=>exact cO _
 |some k'=>rcases b t k' e1 with⟨_,e⟩|⟨k,a,_,c⟩;show k'.de.toNat<=_;grind;show k'.de.toNat<=_;rw[c,a];exact aR _
def aax(h:f.nK):jF m f f.ends/\(f.Ord->f.ends.Ord)/\(∀(t:Nat) k',f.ends.K[t]? =Z (Z k')->∃k,f.K[t]? =Z (Z k)/\k'.tok=k.tok)/\f.ends.acc=f.acc:=by let⟨o,p,s,u,l,d⟩:=Ml f.fl.length f h;refine⟨Nd o p s u λt k' a=>?_,λn t k' a=>?_,λt k' a=>?_,l⟩;let⟨k,b,c,e,i,j⟩:=d t k' a;exact az ⟨k,b,aA ⟨c,j⟩,i⟩;let⟨k,b,c,e,i,j⟩:=d t k' a;have:=n t k b;unfold Ck.Ord at this⊢;rw[c];show _/\∀r∈k.q,0<=r.no/\r.no<(Fx.fin f.fl.length f).acc;rwa [l];let⟨k,b,c,e,i,j⟩:=d t k' a;exact⟨k,b,e⟩
end
open Go.Conc
def flP:av aZ:=[66,36,37,33,34,20,59,60,100,102,62,63,64,304,81,111,71,72,73,68,74,69,70,54,96,151,152,153,103,104,105,106,77,107,108,109,119,120,115,112,116,117,113,114,188,189,75,192,193,159,160,161,162,163,164,165,166,167,168,169,172,171,170,78,201,225,190,191,202,232,233,195,196,197,198,199,200,203,204,205,206,207,208,209,210,211,212,226,228,229,230,231,237,238,224,234,235,236,239,240,241,242,243,244,245,227,260,261,262,263,264,265,266,267,268,269,270,273,274,275,276,277,278,279,280,281,282,284,285,286,287,28,21,29,67,30,31,41,25,76,43,42,35,58,95]
def akF:PT prog=M:=aW
def adH:(uY prog [] "" &&uY prog [] " ")=M:=aW
open Go.RowKit
section
open Go.ConcR (Payload)
section
variable {f:Fx}
def Fx.Rest.put(h:f.Rest){s k k'}(a:f.K[s]? =Z (Z k))(i:k'.In f.g f.clock)(b:k'.bw=k.bw)(c:k'.prom=k.prom)(d:k'.no=k.no)(e:k'.de=k.de):(f.at s k').Rest:=by refine⟨h.core.put a i b c d (by rw[e];exact h.core.de s k a) λt x _ j=>h.core.de t x j,h.bO,h.log,h.C,h.acc⟩
def Fx.Rest.send(h:f.Rest){s k}(b:f.K[s]? =Z (Z k))(x):(f.send s k x).1.Rest:=by unfold Fx.send;split;exact h;split;exact h;rename_i c d;have a:=(h.core.cl s k b).1;refine h.put b ⟨a.ph,a.wt,?_,a.q,a.len,a.out,a.tok,a.de,a.sv,a.us⟩ U U U U;show(k.aN++x).size<=1024;grind
def Fx.Rest.take(h:f.Rest){s k}(c:f.K[s]? =Z (Z k))(n):(f.at s<|k.takes n).Rest/\(f.take s k n).Rest:=by
 have b:=(h.core.cl s k c).1;have a:(f.at s<|k.takes n).Rest:=by
  unfold Ck.takes;split;exact h.put c b U U U U;refine h.put c ⟨b.ph,b.wt,b.aN,b.q,b.len,?_,b.tok,b.de,b.sv,b.us⟩ U U U U;have:=b.out;show((k.take<|k.much n).out.size:Int)+k.prom<=f.g.ou;have e:(k.take<|k.much n).out.size<=k.out.size:=by show(k.out.extract _ _).size<=_;rw[oH];omega
  omega
 exact⟨a,a.bQ _⟩
def abl{l s}(h:∀b∈l,b.s≠s):gw l s=0/\ir l s=0:=by
 induction l with
 |nil=>exact⟨U,U⟩
 |cons b l g=>let⟨c,d⟩:=g λx e=>h x (gC _ e);have a:=h b fJ;refine⟨?_,?_⟩;show(if b.s=s then(b.rs.length:Int)else 0)+gw l s=0;rw[aI a,c];rfl;show(if b.s=s then iJ b.rs else 0)+ir l s=0;rw[aI a,d];rfl
end
section
variable [an] [oM] {l:av aZ} {u:aq} {f:Fx} {xb:Nat} {L:cZ}
def aE.ticks(c:Bld)(h:aE u f xb L)(G:CR l)(hR:f.Rest)(hc:f.clock<1073741824):
  dX prog 26 #[pt xb] u λe b=>e=aG (.tuple #[])/\(f.tick.Rest/\f.tick.clock=f.clock+1)/\∃a,aE b f.tick xb a/\bE u L b a:=
 (h.S6 Fx.nK Fx.mw (U3 c _) wY vw (λ_ h=>h.core.stay) G (hR.ok hc)<|λh=>h.trn).mono λ_ _ ⟨d,g,i⟩=>⟨d,YB hR g,i⟩
end
end
section
variable {f:Fx}
def Fx.Rest.jV(h:f.Rest){j wt}(O:f.K[j]? =Z aj)(P:1<=wt/\wt<=4):(f.jV j wt).Rest:=by
 have m:=h.core.g;have S:=m.bu;have X:=m.qu;have W:=m.ou;have V:=m.mx;have J:=h.core.clock;have T:=h.core.bF;have L:∀b∈f.fl,b.s≠j:=λb G e=>by let⟨_,_,_,k,v⟩:=h.core.jb b G;rw[e,O]at v;cases v
 let⟨Q,R⟩:=abl L;have N:(Ck.fresh f.bF wt f.g.bu).In f.g f.clock:=by refine⟨⟨fI 0,by show(0:Int)<=4;omega⟩,P,by show(0:Nat)<=1024;omega,λr hr=>(by cases hr),?_,?_,?_,fI 0,?_,⟨xS,λx a=>M3⟩⟩;show((0:Nat):Int)<=f.g.qu;omega;show((0:Nat):Int)+0<=f.g.ou;omega;show 0<=f.g.bu/\f.g.bu<=32;omega;show(0:Int)<=0/\0+32*f.g.bu<=1024*(f.clock+1);omega
 have l:∀(t:Nat) x,(f.K.set j<|Z<|Ck.fresh f.bF wt f.g.bu)[t]? =Z (Z x)->(t=j/\x=Ck.fresh f.bF wt f.g.bu)\/(t≠j/\f.K[t]? =Z (Z x)):=λt x a=>oy a;refine⟨⟨m,?_,?_,λt x a=>?_,λt x a=>?_,λt x a=>?_,λt p x n a w e=>?_,λc H=>?_,h.core.sorted,h.core.pq,h.core.fresh,h.core.kA,J,h.core.B,h.core.bD,h.core.acc,by show 0<=f.bF+1;omega⟩,h.bO,h.log,h.C,h.acc⟩;show((f.K.set j _).length:Int)=f.g.cl;rw[jB];exact h.core.len;show f.aC<(f.K.set j _).length;rw[jB];exact h.core.aC;show x.In f.g f.clock/\x.bw=gw f.fl t/\x.prom=ir f.fl t;rcases l t x a with⟨o,i⟩|⟨_,d⟩;rw[o,i,Q,R];exact⟨N,rfl,rfl⟩;exact h.core.cl t x d;rcases l t x a with⟨o,i⟩|⟨_,d⟩;rw[i];show(0:Int)<=_;split<;>omega;exact h.core.de t x d;show 0<=x.no/\x.no<f.bF+1;rcases l t x a with⟨o,i⟩|⟨_,d⟩;rw[i];show 0<=f.bF/\f.bF<f.bF+1;omega;have:=h.core.lI t x d;omega;rcases l t x a with⟨o,i⟩|⟨_,d⟩;rcases l p n w with⟨E,u⟩|⟨_,q⟩;omega;have:=h.core.lI p n q;rw[i]at e;have D:f.bF=n.no:=e;omega;rcases l p n w with⟨E,u⟩|⟨_,q⟩;have:=h.core.lI t x d;rw[u]at e;have D:x.no=f.bF:=e;omega;exact h.core.one t p x n d q e;let⟨a1,z,a3,k,A⟩:=h.core.jb c H;exact⟨a1,z,a3,IW A⟩
def Fx.Core.is(h:f.Core){s k}(a:f.K[s]? =Z (Z k)):f.Is k.no s k:=⟨a,U,λt c b e=>h.one t s c k b a e⟩
end
def qlO:aV (aV Ck)->Nat
 |some (Z k)=>k.q.length|_=>0
abbrev Fx.ql(f:Fx)(s:Nat):Nat:=qlO f.K[s]?
def rW(f f':Fx):Prop:=∀s,f'.ql s<=f.ql s
section
variable {f f1 f':Fx} {s:Nat} {k k':Ck}
def rW.trans(h:rW f f1)(a:rW f1 f'):rW f f':=λs=>cM (a s) (h s)
def rW.refl(f):rW f f:=λ_=>aR _
def Tv{o}(a:f'.K=f.K.set s o)(h:qlO (Z o)<=f.ql s):rW f f':=λt=>by grind
def afw(a:f.K[s]? =Z (Z k)):f.ql s=k.q.length:=by show qlO f.K[s]? =_;rw[a];rfl
def Uw(f j):rW f (f.dP j)/\(f.dP j).fl=f.fl:=by unfold Fx.dP;split;split;exact⟨Tv U<|cO _,U⟩;exact⟨.refl f,U⟩;exact⟨.refl f,U⟩
def Mz(f):∀n,rW f (f.bQ n)/\(f.bQ n).fl=f.fl
 |0=>⟨.refl f,U⟩|n+1=>by rw[uV];exact⟨(Mz f n).1.trans (Uw _ n).1,(Uw _ n).2.trans (Mz f n).2⟩
def TM:∀(n:Nat) (f:Fx),f.nK->rW f (Fx.fin n f)/\(Fx.fin n f).nK/\(∀b∈(Fx.fin n f).fl,b∈f.fl)/\(f.fl.length<=n->∀b∈(Fx.fin n f).fl,f.clock<b.due)
 |0,f,h=>⟨.refl f,h,λ_ h=>h,λi b a=>by have c:b∈f.fl:=a;rw[vQ.1<|Nat.le_zero.1 i]at c;cases c⟩|n+1,f,h=>by unfold Fx.fin;split;rename_i e;exact⟨.refl f,h,λ_ h=>h,λ_ b a=>by rw[e]at a;cases a⟩;rename_i b r e;split;rename_i d;obtain⟨⟨k,g,_⟩,_,m⟩:=wY.does f b r h e d;let⟨w,l,_⟩:=uR {f with fl:=r} b;let⟨t,u,v,j⟩:=TM n _ m;have p:=(h.core.jb b j4).1;refine⟨rW.trans (Tv (by rw[sE (f:={f with fl:=r}) g]) ?_) t,u,λx hx=>?_,λi x hx=>?_⟩;show(k.answers _ _ _).q.length<=_;rw[(CZ (({f with fl:=r}:Fx).dk.change b.rs b.ft).B b.ft (b.rs.take b.rs.length) k (by rw[pM];exact p.gd)).q,afw g];exact aR _;have:=v x hx;grind;rw[l]at j;exact j j4 x hx;rename_i d;refine⟨.refl f,h,λ_ h=>h,λ_ x hx=>?_⟩;rw[e]at hx;rcases jh.1 hx with rfl|hx;omega;have:=(wY.top f b r h e).1 x hx;unfold eI at this;simp at this;omega
def abr(j:f'.g=f.g)(hf:f'.fl=f.fl)(i:f'.K.map (gI Ck.lose)=f.K.map (gI Ck.lose))(c:k'.lose=k.lose):f'.free k'=f.free k:=by
 have d:k'.eM f.g=k.eM f.g:=show k'.lose.eM f.g=k.lose.eM f.g by rw[c]
 have e:k'.fst=k.fst:=show k'.lose.fst=k.lose.fst by rw[c]
 unfold Fx.free Fx.held;rw[j,hf,d,e];have b:∀(a:aV Ck->Bool) (K:av (aV Ck)),(∀o,a (o.map Ck.lose)=a o)->K.any a=(K.map<|gI Ck.lose).any a:=λa K h=>by grind
 rw[b _ f'.K,b _ f.K,i];all_goals exact λo=>by cases o<;>rfl
def adp(a:f.K[s]? =Z (Z k))(h:k'.lose=k.lose):(f.K.set s<|Z k').map (gI Ck.lose)=f.K.map (gI Ck.lose):=by rw[Fj];exact yZ j4
def YI(f:Fx)(k):(f.aT k).lose=k.lose:=by unfold Fx.aT;split<;>rfl
end
section
variable {k:Ck} {s:ByteArray} {t:av UInt8}
def wU(h:s.data.toList=t)(i):bt s i=((t[i]?.getD 0).toNat:Int):=by unfold bt;rw[<-h];simp[ue]
def Nl(n:Nat)(h:n<=65535):(((ji ((n:Int)%256).toNat).toNat:Int))+256*((ji ((n:Int) / 256).toNat).toNat:Int)=n:=by have a:((n:Int)%256).toNat=n %256:=Y;have b:((n:Int) / 256).toNat=n / 256:=Y;rw[a,b,zQ,zQ];omega
structure Aj(k k':Ck):Prop where
 no:k'.no=k.no
 wt:k'.wt=k.wt
 tok:k'.tok=k.tok
 de:k'.de=k.de
 sv:k'.sv=k.sv
 prom:k'.prom=k.prom
 out:k'.out=k.out
 ph:k'.ph=k.ph
def Aj.trans{a b c}(h:Aj a b)(d:Aj b c):Aj a c:=⟨d.no.trans h.no,d.wt.trans h.wt,d.tok.trans h.tok,d.de.trans h.de,d.sv.trans h.sv,d.prom.trans h.prom,d.out.trans h.out,d.ph.trans h.ph⟩
end
attribute [local go_sem ↓] Go.wp_at_zero Go.wp_at_succ
attribute [local go_sem] cz cE
abbrev qo(n:Nat):aF UInt8:=Array.replicate n 0
def Ef(n:Nat):aF aB:=(qo n).map bP
def adw(n):madeCells (BX .u8 0).cells n=Ef n:=by apply Bx;rw[show(BX .u8 0).cells=#[.int .u8 0] from U,toList_madeCells_one];simp[Ef,qo]
def adN(n:Nat)(e:n<=65535)(W):(Instr.makeSlice 158 (I (n:Int))<|I (n:Int)).run prog W=.ok (.slice (Z<|F W.heap.size 0) n n) (W.alloc<|au (Ef n) 5):=by let⟨d,a,b,c,f⟩:=nG infoByte;have h:=run_make W 158 5 d (.int .u8 0) underlying158 a b .i64 .i64 (n:Int) (n:Int) Y Y j4 Y;rw[c]at h;simp at h;rwa [adw]at h
def Ru(w w':aq)(n d:Nat):Prop:=∃a b,dc w' d a b (.slice aj 0 0) n (qo n) (qo n) []/\w.heap.size<=d/\w.heap.size<=a/\w.heap.size<=b
def Tj{w n b0 b1}(a:n<=65535)(h:(b0=w.heap.size/\b1=w.heap.size+1)\/(b1=w.heap.size/\b0=w.heap.size+1)):
  Ru w ((((w.alloc<|au (Ef n) 5).alloc<|au (Ef n) 5).alloc<|au #[.slice (Z<|F b0 0) n n,.slice (Z<|F b1 0) n n,.slice aj 0 0] 161).drew) n (w.heap.size+2):=by
 refine⟨b0,b1,⟨new1 ay,?_,?_,qH _ _ _ _,by simp[qo],ay,Y,Y⟩,Y,Y,Y⟩;rcases h with h|h;exact gD<|gD<|new1 h.1;exact gD (new1 (by simp;exact h.2));rcases h with h|h;exact gD (new1 (by simp;exact h.2));exact gD<|gD<|new1 h.1
def Tg(n:Nat)(c:n<=65535)(w):
  Calls prog 111 #[I (n:Int)] w λe d=>∃b,e=aG (aQ b)/\aK w d/\Ru w d n b:=by
 have m:=adN n c;go_enter func111,ntmps111
 go_upto_region 1 with fail
 refine ga (S:=λ_=>True) trivial λl=>?_;apply tl [0,2];refine aH [1,3]<|.cons U (λK a=>?_) ?_
 ·go_simp;refine a _ _ (trivial)<|λf=>?_;clear a K;refine rH 3 λK a=>?_;go_simp;refine a _ _ (trivial)<|λg=>?_;clear a K;apply tl [4];refine rH 5 λK a=>?_;go_simp;refine a _ _ (trivial)<|λh=>?_;clear a K;apply tl [6];refine dJ ?_;(go_wp2_with fail;go_ret;exact⟨_,U,((bq.alloc ay _).alloc bV _).drew,(Tj c<|aA ⟨U,U⟩)⟩)
 refine .cons U (λK a=>?_) .nil;go_simp;refine a _ _ (trivial)<|λi=>?_;clear a K;refine rH 1 λK a=>?_;go_simp;refine a _ _ (trivial)<|λj=>?_;clear a K;apply tl [4];refine rH 5 λK a=>?_;go_simp;refine a _ _ (trivial)<|λk=>?_;clear a K;apply tl [6];refine dJ ?_
 (go_wp2_with fail;go_ret;exact⟨_,U,((bq.alloc ay _).alloc bV _).drew,(Tj c<|az ⟨U,U⟩)⟩)
def J7(w:aq)(a N:Nat)(l i k rt h m j:Int)(e:Ending)(w':aq):Prop:=∃c b d f g,e=aG (.tuple #[aQ c,I 0])/\J5 w' c a N l i k rt h m j b N 0 0 aa 0 (Z<|F d 0)/\Ai w' b (rP N aj)/\dc w' d f g (.slice aj 0 0) a (qo a) (qo a) []/\aK w w'/\w.heap.size<=c/\w.heap.size<=b/\w.heap.size<=d/\w.heap.size<=f/\w.heap.size<=g
def dc.old{W W' d bb db n B D}(h:dc W d bb db (.slice aj 0 0) n B D [])(a:∀(b:Nat) (x:Obj),W.heap[b]? =Z x->W'.heap[b]? =Z x):dc W' d bb db (.slice aj 0 0) n B D []:=⟨a _ _ h.box,a _ _ h.bytes,a _ _ h.fX,qH _ _ _ _,h.sizes,h.fits,h.apart,h.small⟩
def aef(d N:Nat)(qu mx qn rt bu wk ou w)(u:d<=65535)(B:N<=65535)(hc:sB d N qu mx qn rt bu wk ou=M):
  Calls prog 66 #[.agg<|iV d N qu mx qn rt bu wk ou] w (J7 w d N qu mx qn rt bu wk ou):=by
 have J:=adP N B;go_enter func66,ntmps66
 go_upto_region 4 with(go_at_call 81;apply(U2 d N qu mx qn rt bu wk ou _).mono;rw[hc];rintro e i ⟨rfl,p⟩)
 have s:=bq.trans (p.mono ay);have c:=(p.block _ ay).trans (heap_alloc_new w _);have j:=aX s;clear p s;refine ga (S:=iU w.heap.size d N qu mx qn rt bu wk ou) ⟨aD c U,aD c U,aD c U,aD c U,aD c U,aD c U,aD c U,aD c U,aD c U⟩ λt=>?_;apply tl [0,1,2,4,5];refine aH [3,6]<|.cons U (λK a=>?_) ?_
 ·go_simp;refine a _ _ (iU.a1 t)<|λv=>?_;clear a K;refine rH 6 λK a=>?_;go_simp;(refine(Tg d u _).mono ?_;rintro e l ⟨b,rfl,g,q⟩);go_wp2_with fail;refine a _ _ (iU.later v g)<|λx=>?_;clear a K;apply tl [7];refine rH 8 λK a=>?_;go_simp;refine a _ _ (iU.a1 x)<|λG=>?_;clear a K;apply tl [9,10];refine dJ ?_
  (go_wp2_with fail;go_ret2;exact(by
     have k:=j.size;have f:=((j.alloc k _).drew).trans (g.mono bV);let⟨m,n,o,C,D,E⟩:=q;have e:(i.alloc<|au (tU<|rP N aj) 119).drew.heap.size=i.heap.size+1:=ay;exact⟨l.heap.size,i.heap.size,b,m,n,U,new1 U,gD<|bT g<|new1 U,o.old λ_ _ h=>gD h,f.alloc f.size _,f.size,k,Y,Y,Y⟩))
 refine .cons U (λK a=>?_) .nil;go_simp
 (refine(Tg d u _).mono ?_;rintro e l ⟨b,rfl,g,q⟩)
 go_wp2_with fail;refine a _ _ (iU.later t g)<|λz=>?_;clear a K;refine rH 3 λK a=>?_;go_simp;refine a _ _ (iU.a1 z)<|λA=>?_;clear a K;apply tl [7];refine rH 8 λK a=>?_;go_simp;refine a _ _ (iU.a1 A)<|λH=>?_;clear a K;apply tl [9,10];refine dJ ?_
 (go_wp2_with fail;go_ret2;exact(by
    have k:=j.size;have f:=(j.drew).trans<|g.mono k;have r:=f.size;let⟨m,n,o,C,D,E⟩:=q;have e:i.drew.heap.size=i.heap.size:=U;exact⟨l.heap.size+1,l.heap.size,b,m,n,U,new1 ay,gD<|new1 U,o.old λ_ _ h=>gD (gD h),(f.alloc r _).alloc bV _,Y,r,Y,Y,Y⟩))
def Fx.sI(f:Fx)(t:Ft):Fx:={f with bD:=f.bD++[t]}
def acE:(prog.info? 188).map (λi=>(i.zero,i.size,i.bytes))=Z (Z<|.agg #[I 0,.bool aa,I 0],3,24):=aW
def aaM{w w3 f xb g cap L t o}(h:aE w f xb L)(s:w3.ownsRow 0 188 3 (.slice (Z<|F g 0) (f.bD.length+1) cap) (f.bD.length+1) ((f.bD.flatMap λt=>(dK t).toList)++(dK t).toList))(i:(w.alloc o).grownBy w3 L.fv.ownBlock)(q:L.fv.ownBlock=Z g\/g=w.heap.size+1):
  w3.heap[xb]? =Z (au (lC f L) 112 (0,0))/\∃k,aE (w3.setCell (F xb 17)<|.slice (Z<|F g 0) (f.bD.length+1) cap) (f.sI t) xb k/\bE w L (w3.setCell (F xb 17)<|.slice (Z<|F g 0) (f.bD.length+1) cap) k:=by
 have c:aK w (w.alloc o):=bq;have j:aS (λb=>Z b=L.fv.ownBlock) w w3:=⟨i.os.trans c.os,cM c.size i.size,λb d l=>(i.block b (cS d c.size) l).trans (c.block b d)⟩;have m:∀b,b<w.heap.size->Z b=L.fv.ownBlock->L.own b=4:=λb _ e=>h.jP b e.symm
 have p:=ze j h.box λe=>by have d:=h.jP xb e.symm;have l:=h.eR;omega
 refine⟨p,_,h.dG (cq:=gE L.own w.heap.size 4) j m j4 (λb a=>gW a)<|λb e=>?_,⟨λb a=>gW a,(j.mono λb a e=>?_).set ?_ _⟩⟩;have n:g=b:=D4
 subst n;rcases q with e|e;rw[gW (jJ h.bD g e)];exact h.jP g e;exact uZ Y;have:=m b a e;show L.own b≠0;omega;show L.own xb≠0;rw[h.eR];omega
def abA(w f xb L)(h:aE w f xb L)(t:Ft)(hd:1<=t.delay/\t.delay<=16)(Q:0<=t.part):Calls prog 76 #[jp xb,I t.delay,.bool t.eJ,I t.part] w λe s=>∃i n,e=aG (I n)/\((n=6/\i=f)\/(n=0/\f.bD.length<64/\i=f.sI t))/\∃m,aE s i xb m/\bE w L s m:=by
 obtain⟨H,C,D,E,G⟩:=nG acE;have q:ia t.delay 1 16=M:=by simp[ia];omega
 have R:¬t.part<0:=Y;have hr:=h.bD;obtain⟨a,cap,e⟩:=gP hr;have z:w.cell? (F xb 17)=Z (.slice a f.bD.length cap):=by rw[<-e];exact aD h.box U
 have S:xb<w.heap.size:=jo z;have T:¬xb=w.heap.size:=Y;have l:=aX h;obtain⟨b,c,tp⟩:=t;by_cases P:64<=f.bD.length;·have B:(f.bD.length:Int)≥64:=Y;go_enter func76,ntmps76;go_wp2_with (go_at_call 71;refine(xK b 1 16 _).mono ?_;rw[q];rintro e j ⟨rfl,h0⟩;subst j);go_ret;exact⟨f,6,U,aA ⟨U,U⟩,L,l,bE.refl _ _⟩
 have B:¬(f.bD.length:Int)≥64:=Y;have v:Hid ((w.alloc<|au (dK ⟨b,c,tp⟩) 188).ownsRow 0 188 3 (.slice a f.bD.length cap) f.bD.length<|f.bD.flatMap λt=>(dK t).toList):=by rw[<-e];exact hr.alloc _
 have r:=trivial;go_enter func76,ntmps76;go_wp2_with (first
  |(go_at_call 71;refine(xK b 1 16 _).mono ?_;rw[q];rintro e j ⟨rfl,h0⟩;subst j)|(at_builtin;have _t:=r;refine Re _ n7 _ _ 106 n7 0 188 H _ 3 24 underlying106 C D E G n7 Y _ f.bD.length (f.bD.flatMap λt=>(dK t).toList) n7 v ⟨w.heap.size,0,aj⟩ 1 1 (dK ⟨b,c,tp⟩).toList n7 n7 (wu<|heap_alloc_new w _) ack Y B5 Y ay (w.heap.size+1) ay ?_;intro g N J p o A O;clear r;obtain⟨d,k⟩:=aaM (t:=⟨b,c,tp⟩) l p (by rw[aX e];exact o) j4;have K:=aJ J xb 17 L.fv d;have f3:=bp d 17;have u:=aX k;clear d k p o A))
 go_ret;exact⟨f.sI ⟨b,c,tp⟩,0,U,az ⟨U,Y,U⟩,u⟩
def Fx.Rest.sI{f:Fx}(h:f.Rest){t}(hl:f.bD.length<64)(hd:1<=t.delay/\t.delay<=16)(a:0<=t.part/\t.part<=9223372036854775807):(f.sI t).Rest:=by have c:=h.core;refine⟨⟨c.g,c.len,c.aC,c.cl,c.de,c.lI,c.one,c.jb,c.sorted,c.pq,c.fresh,c.kA,c.clock,c.B,⟨?_,λx hx=>?_⟩,c.acc,c.bF⟩,h.bO,h.log,h.C,h.acc⟩;show(f.bD++[t]).length<=_;grind;rcases jg.1 hx with hx|hx;exact c.bD.2 x hx;rw[iz.1 hx];exact⟨⟨Y,hd.2⟩,a⟩
abbrev oU(g:Cf):aF aB:=iV g.sz g.cl g.qu g.mx g.qn g.rt g.bu g.wk g.ou
def Fx.new(g:Cf):Fx:={g:=g,K:=rP g.cl.toNat aj,bF:=0,acc:=0,bO:=0,clock:=0,stop:=aa,aC:=0,opn:=aa,bD:=[],fl:=[],B:=qo g.sz.toNat,D:=qo g.sz.toNat,C:=[],log:=[]}
def Cf.Is.WI{g:Cf}(h:sB g.sz g.cl g.qu g.mx g.qn g.rt g.bu g.wk g.ou=M):g.Is:=by unfold sB bfB cfB at h;simp[ia,sN]at h;refine⟨?_,?_,?_,?_,?_,?_,?_,?_,?_⟩<;>omega
def IE{N s:Nat}{x}(h:(rP N (aj:aV Ck))[s]? =Z (Z x)):False:=by grind
def Fx.Rest.new{g:Cf}(h:g.Is):(Fx.new g).Rest:=by have e:=h.cl;have f:=h.sz;have i:=h.wk;exact⟨⟨h,by simp[Fx.new];omega,by simp[Fx.new];omega,λs k a=>(IE a).elim,λs k a=>(IE a).elim,λs k a=>(IE a).elim,λs t k j a=>(IE a).elim,λb c=>acv,y9,y9,λb c=>acv,by simp[Fx.new];omega,fI 0,by simp[Fx.new,qo];omega,⟨akJ,λt d=>(by cases d)⟩,fI 0,fI 0⟩,akJ,akJ,akJ,akJ⟩
def mC{W:aq}{a b t s:Nat}{x aqi}(c:W.heap[a]? =Z (au x t (0,0)))(d:W.heap[b]? =Z (au aqi s (0,0)))(f:t≠s):a≠b:=λe=>by grind
def abD(g)(h:sB g.sz g.cl g.qu g.mx g.qn g.rt g.bu g.wk g.ou=M)(w):
  Calls prog 66 #[.agg<|oU g] w λe u=>∃m L,e=aG (.tuple #[jp m,I 0])/\aE u (Fx.new g) m L/\(∀b,b<w.heap.size->L.own b=0)/\aK w u:=by
 have hI:=Cf.Is.WI h;have T:=hI.cl;have V:=hI.sz;obtain⟨f,hS⟩:∃n:Nat,g.sz=n:=⟨g.sz.toNat,Y⟩;obtain⟨N,v⟩:∃n:Nat,g.cl=n:=⟨g.cl.toNat,Y⟩;have C:g.sz.toNat=f:=Y;have D:g.cl.toNat=N:=Y;have E:=h;rw[hS,v]at E;rw[show oU g=iV f N g.qu g.mx g.qn g.rt g.bu g.wk g.ou from by unfold oU;rw[hS,v]];apply(aef f N g.qu g.mx g.qn g.rt g.bu g.wk g.ou w Y Y E).mono;rintro e u ⟨m,t,d,o,p,rfl,q,hR,k,c,W,X,q3,q4,q5⟩;refine⟨m,⟨t,rP N aj,[],.slice aj 0 0,λ_=>0,λ_=>(0,0),.slice aj 0 0,.slice aj 0 0,d,o,p,.slice aj 0 0,λx=>if x=m then 1 else if x=t then 2 else if x=d\/x=o\/x=p then 6 else 0⟩,U,⟨?_,ay,?_,by simp[(mC q hR aM).symm],⟨by simp[Fx.new,D],λs a b G c=>?_⟩,⟨U,λi b l c=>?_⟩,⟨qH _ _ _ _,λb c=>acv,λx A=>absurd A (rR _),λi l J=>?_,λx an A=>absurd A (rR _),λi b l c=>?_,λj h0 H=>absurd H (rR _)⟩,qH _ _ _ _,λb c=>acv,qH _ _ _ _,λb c=>acv,?_,⟨by simp[(mC q k.box aM).symm,(mC hR k.box aM).symm],by simp[(mC q k.bytes aM).symm,(mC hR k.bytes aM).symm],by simp[(mC q k.fX aM).symm,(mC hR k.fX aM).symm],λb c=>acv⟩⟩,λb c=>?_,c⟩
 rwa [show lC (Fx.new g) _=feL f N g.qu g.mx g.qn g.rt g.bu g.wk g.ou t N 0 0 aa 0 (Z<|F d 0) from by simp[lC,feL,Fx.new,hS,v]]
 rwa [List.map_replicate]
 have r:(rP N (aj:aV Ck))[s]? =Z a:=by rw[<-D];exact G
 rw[Kn]at r;have z:=c;rw[Kn]at z;split at r;rename_i K;rw[aO K]at z;cases r;cases z;trivial;cases r;cases c;cases J;cases c;have:(Fx.new g).B.size=f:=by simp[Fx.new,qo,C]
 rw[this];show dc u d o p _ f (qo g.sz.toNat) (qo g.sz.toNat) []
 rwa [C]
 have:b≠m/\b≠t/\b≠d/\b≠o/\b≠p:=⟨Y,Y,Y,Y,Y⟩;simp[this]
abbrev crL(g:Cf)(xb:Nat)(lv:aB):aF aB:=#[I g.sz,I g.cl,I g.qu,I g.mx,I g.qn,I g.rt,I g.bu,I g.wk,I g.ou,jp xb,lv,.slice aj 0 0,I 0,I 1,I 0]
abbrev J2(W:aq)(a:Nat)(g:Cf)(xb:Nat)(lv:aB):Prop:=W.heap[a]? =Z (au (crL g xb lv) 40 (0,0))
def K6(g)(h:sB g.sz g.cl g.qu g.mx g.qn g.rt g.bu g.wk g.ou=M)(w):
  Calls prog 30 #[.agg<|oU g] w λe l=>∃i f L,e=aG (jp i)/\J2 l i g f (.slice aj 0 0)/\aE l (Fx.new g) f L/\(∀b,b<w.heap.size->L.own b=0)/\L.own i=0/\w.heap.size<=i/\(∀b,l.heap.size<=b->L.own b=0)/\aK w l:=by
 have o:=aX h;clear h;go_enter func30,ntmps30;go_wp2_with (go_at_call 66;apply(abD g o _).mono;rintro e a ⟨f,L,rfl,hF,j,d⟩;have c:=bT d<|heap_alloc_new w _;have q:=aJ a w.heap.size 0 (I g.sz) c;have r:=aJ a w.heap.size 1 (I g.cl) c;have s:=aJ a w.heap.size 2 (I g.qu) c;have t:=aJ a w.heap.size 3 (I g.mx) c;have u:=aJ a w.heap.size 4 (I g.qn) c;have v:=aJ a w.heap.size 5 (I g.rt) c;have x:=aJ a w.heap.size 6 (I g.bu) c;have z:=aJ a w.heap.size 7 (I g.wk) c;have A:=aJ a w.heap.size 8 (I g.ou) c;have p:Hid (aE a (Fx.new g) f L/\(∀b,b<(w.alloc<|au (oU g) 35).heap.size->L.own b=0)/\aK (w.alloc<|au (oU g) 35) a):=⟨hF,j,d⟩;clear hF j d c);go_ret
 let⟨hF,j,d⟩:=p
 have m:aK w a:=bq.trans (d.mono ay);have n:=m.size;refine⟨a.heap.size,f,{L with own:=λb=>if b<a.heap.size then L.own b else 0},U,new1 U,(hF.owns _ λb k=>aO k).below<|(Below.refl _ a).alloc (aR _) _,λb k=>?_,aI<|uD _,n,λb k=>aI ?_,m.alloc n _⟩;show(if b<a.heap.size then L.own b else 0)=0;rw[aO Y];exact j b bV;simp at k;omega
section
attribute [local go_sem] cz cE Dj Dl vB
structure CQ[an](l:av aZ):Prop where
 fit:Fit prog l
 kR:an.known 29
 kP:an.known 21
 kC:an.known 28
def agk[an](x):results f29 x=results f29 (dU (dR 29) x):=by have h:(dU (dR 29) x).getD 4 y=x.getD 4 y:=zm (L:=dR 29) (a:=⟨x,[]⟩) (i:=4) aM;simp only[results,results29,BW,vU,BV,h]
def agj[an](x):results f21 x=results f21 (dU (dR 21) x):=by have h:(dU (dR 21) x).getD 4 y=x.getD 4 y:=zm (L:=dR 21) (a:=⟨x,[]⟩) (i:=4) aM;simp only[results,results21,BW,vU,BV,h]
def agi[an](x):results f28 x=results f28 (dU (dR 28) x):=by have h:(dU (dR 28) x).getD 2 y=x.getD 2 y:=zm (L:=dR 28) (a:=⟨x,[]⟩) (i:=2) aM;simp only[results,results28,BW,vU,BV,h]
section
variable [an] {u:aq} {l:av aZ}
def afF(ad len cap j ρ i v)(h:(Frame.enter prog 29 #[.slice ad len cap,I j] .normal).tmps[i]? =Z v)(b:i∉dR 29):VR ρ v v:=
 Di func29 (body:=nS f29) aW (λi v h b ρ=>by
  match i,b with
  |0,b=>exact absurd aM b
  |1,_=>simp at h;subst h;exact .int _ _
  |n+2,_=>simp at h) ρ i v h b
def afg(c n ρ i v)(h:(Frame.enter prog 21 #[I c,I n] .normal).tmps[i]? =Z v)(b:i∉dR 21):VR ρ v v:=
 Di func21 (body:=nS f21) aW (λi v h b ρ=>by
  match i with
  |0=>simp at h;subst h;exact .int _ _
  |1=>simp at h;subst h;exact .int _ _
  |n+2=>simp at h) ρ i v h b
def V7(ad len cap ρ i v)(h:(Frame.enter prog 28 #[.slice ad len cap] .normal).tmps[i]? =Z v)(b:i∉dR 28):VR ρ v v:=
 Di func28 (body:=nS f28) aW (λi v h b ρ=>by
  match i,b with
  |0,b=>exact absurd aM b
  |n+1,_=>simp at h) ρ i v h b
variable {Q:Exit->Act->aq->Prop} {a:Act} {ops:aF Oper} {i n d:Nat} {rest:av Nat} {f0:aZ} {L:av (Nat×aB)} {ty:aY} {ps:String} {af:aF Edge} {gd:aV (Nat×Bool)} {ats:aF aY} {x aqi:Operand} {ad:aV iL} {len cap:Nat} {j c:Int}
def FE.raw(G:CQ l)(hl:len<=cP)(h:Af ad len)(E:Fa n a L)(k:∀z b,dy z->iD a b d (I z)->Fa n b ((d,I z)::L)->FO dR f0 prog ops Q rest b u)(g:ops[i]? =Z ⟨Z d,.call ⟨.value<|.func 29,#[x,aqi],ats⟩,ty,ps,af,gd⟩:=by rfl) (hv:tK L [x,aqi]=Z [.slice ad len cap,I j]:=by rfl) (f:0<=j/\j<=9223372036854775807:=by omega) (m:(iu ops L gd&&iH ops n gd)=M:=by rfl) (hc:mW [] n d []=M:=by rfl):FO dR f0 prog ops Q (i::rest) a u:=by refine FE.cf (xs:=[x,aqi]) E func29 G.kR agk (afF ad len cap j) ((afG G.fit ad len cap j hl f.1 f.2 h).mono ?_) g m (hc:=hc) (hv:=hv);rintro e p ⟨z,rfl,o,h0⟩;subst p;exact⟨_,U,λb N E=>k z b o N E⟩
def FE.pkz{m:Int}(G:CQ l)(h:dy c)(E:Fa n a L)(k:∀b,iD a b d (I<|eX c m)->Fa n b ((d,I<|eX c m)::L)->FO dR f0 prog ops Q rest b u)(f:ops[i]? =Z ⟨Z d,.call ⟨.value<|.func 21,#[x,aqi],ats⟩,ty,ps,af,gd⟩:=by rfl) (hv:tK L [x,aqi]=Z [I c,I m]:=by rfl) (hm:0<m/\m<=9223372036854775807:=by omega) (g:(iu ops L gd&&iH ops n gd)=M:=by rfl) (hc:mW [] n d []=M:=by rfl):FO dR f0 prog ops Q (i::rest) a u:=by refine FE.cf (xs:=[x,aqi]) E func21 G.kP agj (afg c m) ((afh G.fit c m h hm.1 hm.2).mono ?_) f g (hc:=hc) (hv:=hv);rintro e o ⟨rfl,h0⟩;subst o;exact⟨_,U,λb N E=>k b N E⟩
def FE.tT{m:Int}(G:CQ l)(g:dy c)(E:Fa n a L)(k:∀r b,(0<=r/\r<m)->iD a b d (I r)->Fa n b ((d,I r)::L)->FO dR f0 prog ops Q rest b u)(e:ops[i]? =Z ⟨Z d,.call ⟨.value<|.func 21,#[x,aqi],ats⟩,ty,ps,af,gd⟩:=by rfl) (hv:tK L [x,aqi]=Z [I c,I m]:=by rfl) (hm:0<m/\m<=9223372036854775807:=by omega) (f:(iu ops L gd&&iH ops n gd)=M:=by rfl) (hc:mW [] n d []=M:=by rfl):FO dR f0 prog ops Q (i::rest) a u:=FE.pkz G g E (λb N E=>k _ b (AX c hm.1) N E) e hv hm f hc
def FE.lcf{g:Cf}{b k:Nat}(o:Fit prog l)(E:Fa n a L)(B:u.heap[b]? =Z (au (oU g) 35 (0,0)))(c:∀m,iD a m d (.agg<|oU g)->Fa n m ((d,.agg<|oU g)::L)->FO dR f0 prog ops Q rest m u)(f:ops[i]? =Z ⟨Z d,.load 35<|.tmp k,ty,ps,af,gd⟩:=by rfl) (p:lk L k=Z (pt b):=by rfl) (q:(iu ops L gd&&iH ops n gd)=M:=by rfl) (hc:mE (dR f0) n d L (.load 35<|.tmp k)=M:=by rfl):FO dR f0 prog ops Q (i::rest) a u:=by
 refine FE.ow E c f q U hc (λh=>?_) o;have e:gS L (.tmp k)=pt b:=by show(lk L k).getD y=_;rw[p];rfl
 have f:(u.tp h).heap[b]? =_:=B;have r:=aJ (u.tp h) b 0 (I g.sz) f;have s:=aJ (u.tp h) b 1 (I g.cl) f;have t:=aJ (u.tp h) b 2 (I g.qu) f;have v:=aJ (u.tp h) b 3 (I g.mx) f;have w:=aJ (u.tp h) b 4 (I g.qn) f;have z:=aJ (u.tp h) b 5 (I g.rt) f;have A:=aJ (u.tp h) b 6 (I g.bu) f;have C:=aJ (u.tp h) b 7 (I g.wk) f;have D:=aJ (u.tp h) b 8 (I g.ou) f;clear f B E c;unfold execOp;simp only[e];go_simp
def V8(G:CQ l)(ad:aV iL)(len cap:Nat)(hl:len<=cP)(h:Af ad len):
  iT dR prog 28 #[.slice ad len cap] u λe u'=>∃g:Cf,e=aG (.agg<|oU g)/\sB g.sz g.cl g.qu g.mx g.qn g.rt g.bu g.wk g.ou=M:=by
 have hT:=G.fit;refine iT.AU 60 func28 λa E=>?_;refine FX.sq<|FX.reg [0] ?_;refine FE.nw (v:=pt u.heap.size) E (u.alloc<|au (iV 0 0 0 0 0 0 0 0 0) 35) (hr:=λA=>by go_simp;rfl) λa _ E=>GO.nil ?_;obtain⟨f,lD⟩:∃b,b=u.heap.size:=⟨_,U⟩;rw[<-lD]at E;have o:(u.alloc<|au (iV 0 0 0 0 0 0 0 0 0) 35).heap[f]? =Z (au (iV 0 0 0 0 0 0 0 0 0) 35 (0,0)):=new1 lD;generalize u.alloc (au (iV 0 0 0 0 0 0 0 0 0) 35)=H at*;clear lD;refine FX.sq<|FX.reg [0,1,2,3,4,5,6,7,8,9,10,11,12,13,14,15,16,17,18,19,20] ?_;refine FE.bl E λa _ E=>?_;refine FE.raw G hl h E λz0 a oh _ E=>?_;refine FE.tT G oh E λK a yJ _ E=>?_;refine FE.ar E λa _ E=>?_;refine FE.ar E λa _ E=>?_;refine FE.bl E λa _ E=>?_;refine FE.raw G hl h E λz1 a bg _ E=>?_;refine FE.tT G bg E λP a Vk _ E=>?_;refine FE.ar E λa _ E=>?_;refine FE.bl E λa _ E=>?_;refine FE.raw G hl h E λz2 a oZ _ E=>?_;refine FE.tT G oZ E λR a bC _ E=>?_;refine FE.ar E λa _ E=>?_;refine FE.bl E λa _ E=>?_;refine FE.raw G hl h E λz3 a bh _ E=>?_;refine FE.tT G bh E λm a bD _ E=>?_;refine FE.ar E λa _ E=>?_;refine FE.ar E λa _ E=>?_;refine FE.ow (v:=.agg<|iV (4*(1+K)) (1+P) (1+R) (4*(1+m)) 0 0 0 0 0) E λa _ E=>?_;refine FE.nw (v:=pt H.heap.size) E (H.alloc<|au (iV 0 0 0 0 0 0 0 0 0) 35) (hr:=λA=>by go_simp;rfl) λa _ E=>?_;obtain⟨B,V⟩:∃b,b=H.heap.size:=⟨_,U⟩;rw[<-V]at E;refine FE.vo E (H.alloc<|au (iV (4*(1+K)) (1+P) (1+R) (4*(1+m)) 0 0 0 0 0) 35) (GO.nil ?_) (hr:=λA=>?_)
 rotate_left
 ·show _=Result.ok _ ((H.tp A).alloc<|au (iV (4*(1+K)) (1+P) (1+R) (4*(1+m)) 0 0 0 0 0) 35);have V:B=(H.tp A).heap.size:=V;show(execOp _ _).run _ ((H.tp A).alloc<|au (iV 0 0 0 0 0 0 0 0 0) 35)=_;generalize H.tp A=x at*;subst V;go_simp
 have w:(H.alloc<|au (iV (4*(1+K)) (1+P) (1+R) (4*(1+m)) 0 0 0 0 0) 35).heap[B]? =Z (au (iV (4*(1+K)) (1+P) (1+R) (4*(1+m)) 0 0 0 0 0) 35 (0,0)):=new1 V;have W:f≠B:=λe=>by have:=(bf.1 o).1;omega
 replace o:(H.alloc<|au (iV (4*(1+K)) (1+P) (1+R) (4*(1+m)) 0 0 0 0 0) 35).heap[f]? =Z (au (iV 0 0 0 0 0 0 0 0 0) 35 (0,0)):=gD o
 generalize H.alloc (au (iV (4*(1+K)) (1+P) (1+R) (4*(1+m)) 0 0 0 0 0) 35)=u2 at*;clear V
 replace E:Fa 60 a [(0,.slice ad len cap),(2,pt f),(3,pt B)]:=E.to
 refine FX.sq<|FX.dr 11 10 (λi v=>match i with|0=>v=.pointer (Z<|F B 3)|1=>v=I (4*(1+m))|2=>v=.slice ad len cap|3=>∃z,v=I z/\dy z|4=>v=.pointer (Z<|F B 3)|5=>v=I (4*(1+m))|6=>v=I (65-(4*(1+m)))|7=>∃r,v=I r/\(0<=r/\r<65-(4*(1+m)))|8=>∃r,v=I ((4*(1+m))+r)/\(0<=r/\r<65-(4*(1+m)))|9=>v=.pointer (Z<|F B 4)|_=>True) E (λu3 S i hi a is E t p=>?_) λu3 S a E hv=>?_
 ·subst S;match i,hi with
  |0,_=>exact FE.ow E λk N _=>p k _ U N
  |1,_=>exact FE.lc (E.add (d:=23)<|t 0 U) w λk N _=>p k _ U N
  |2,_=>exact FE.bl E λk N _=>p k _ U N
  |3,_=>exact FE.raw G hl h (E.add (d:=25)<|t 2 U) λz k T N _=>p k _ ⟨z,U,T⟩ N
  |4,_=>exact FE.ow E λk N _=>p k _ U N
  |5,_=>exact FE.lc (E.add (d:=27)<|t 4 U) w λk N _=>p k _ U N
  |6,_=>exact FE.ar (E.add (d:=28)<|t 5 U) λk N _=>p k _ U N
  |7,_=>obtain⟨z,D,T⟩:∃z,a.eval (.tmp 26)=I z/\dy z:=t 3 U;exact FE.tT G T (((E.add (d:=29)<|t 6 U)).add (d:=26) D) λr k hr N _=>p k _ ⟨r,U,hr⟩ N
  |8,_=>obtain⟨r,D,hr⟩:∃r,a.eval (.tmp 30)=I r/\(0<=r/\r<65-(4*(1+m))):=t 7 U;exact FE.ar (((E.add (d:=24)<|t 1 U)).add (d:=30) D) λk N _=>p k _ ⟨r,U,hr⟩ N
  |9,_=>exact FE.ow E λk N _=>p k _ U N
  |q+10,hm=>omega
 obtain⟨r4,D,bE⟩:∃r,a.eval (.tmp 31)=I ((4*(1+m))+r)/\(0<=r/\r<65-(4*(1+m))):=hv 8 U
 replace E:=(E.add (d:=32)<|hv 9 U).add (d:=31) D
 clear hv;subst S;refine eP.one (j:=10) aW λis X=>?_;refine FE.st E w λu4 w O=>X _ _ (eP.none aW ?_)
 replace o:=(O f W).trans o
 replace E:Fa 60 a [(0,.slice ad len cap),(2,pt f),(3,pt B)]:=E.to
 refine FX.sq<|FX.reg [0,1,2,3,4,5] ?_;refine FE.bl E λa _ E=>?_;refine FE.raw G hl h E λz5 a bk _ E=>?_;refine FE.tT G bk E λr5 a bH _ E=>?_;refine FE.ar E λa _ E=>?_;refine FE.ow E λa _ E=>?_;refine FE.st E w λu5 w O=>GO.nil ?_
 replace o:=(O f W).trans o
 replace E:Fa 60 a [(0,.slice ad len cap),(2,pt f),(3,pt B)]:=E.to
 refine FX.sq<|FX.reg [0,1,2,3,4,5] ?_;refine FE.bl E λa _ E=>?_;refine FE.raw G hl h E λz6 a bn _ E=>?_;refine FE.tT G bn E λr6 a bJ _ E=>?_;refine FE.ar E λa _ E=>?_;refine FE.ow E λa _ E=>?_;refine FE.st E w λu6 w O=>GO.nil ?_
 replace o:=(O f W).trans o
 replace E:Fa 60 a [(0,.slice ad len cap),(2,pt f),(3,pt B)]:=E.to
 refine FX.sq<|FX.reg [0,1,2,3,4,5] ?_;refine FE.bl E λa _ E=>?_;refine FE.raw G hl h E λz7 a bq _ E=>?_;refine FE.tT G bq E λr7 a bL _ E=>?_;refine FE.ar E λa _ E=>?_;refine FE.ow E λa _ E=>?_;refine FE.st E w λu7 w O=>GO.nil ?_
 replace o:=(O f W).trans o
 replace E:Fa 60 a [(0,.slice ad len cap),(2,pt f),(3,pt B)]:=E.to
 refine FX.sq<|FX.dr 12 11 (λi v=>match i with|0=>v=.pointer (Z<|F B 3)|1=>v=I (4*(1+m))|2=>v=I ((4*(1+m))+4)|3=>v=.slice ad len cap|4=>∃z,v=I z/\dy z|5=>v=.pointer (Z<|F B 3)|6=>v=I (4*(1+m))|7=>v=I (253-(4*(1+m)))|8=>∃r,v=I r/\(0<=r/\r<253-(4*(1+m)))|9=>∃r,v=I ((4*(1+m))+4+r)/\(0<=r/\r<253-(4*(1+m)))|10=>v=.pointer (Z<|F B 8)|_=>True) E (λu3 S i hi a is E t p=>?_) λu3 S a E hv=>?_
 ·subst S;match i,hi with
  |0,_=>exact FE.ow E λk N _=>p k _ U N
  |1,_=>exact FE.lc (E.add (d:=48)<|t 0 U) w λk N _=>p k _ U N
  |2,_=>exact FE.ar (E.add (d:=49)<|t 1 U) λk N _=>p k _ U N
  |3,_=>exact FE.bl E λk N _=>p k _ U N
  |4,_=>exact FE.raw G hl h (E.add (d:=51)<|t 3 U) λz k T N _=>p k _ ⟨z,U,T⟩ N
  |5,_=>exact FE.ow E λk N _=>p k _ U N
  |6,_=>exact FE.lc (E.add (d:=53)<|t 5 U) w λk N _=>p k _ U N
  |7,_=>exact FE.ar (E.add (d:=54)<|t 6 U) λk N _=>p k _ U N
  |8,_=>obtain⟨z,D,T⟩:∃z,a.eval (.tmp 52)=I z/\dy z:=t 4 U;exact FE.tT G T (((E.add (d:=55)<|t 7 U)).add (d:=52) D) λr k hr N _=>p k _ ⟨r,U,hr⟩ N
  |9,_=>obtain⟨r,D,hr⟩:∃r,a.eval (.tmp 56)=I r/\(0<=r/\r<253-(4*(1+m))):=t 8 U;exact FE.ar (((E.add (d:=50)<|t 2 U)).add (d:=56) D) λk N _=>p k _ ⟨r,U,hr⟩ N
  |10,_=>exact FE.ow E λk N _=>p k _ U N
  |q+11,hm=>omega
 obtain⟨r8,D,bN⟩:∃r,a.eval (.tmp 57)=I ((4*(1+m))+4+r)/\(0<=r/\r<253-(4*(1+m))):=hv 9 U
 replace E:=(E.add (d:=58)<|hv 10 U).add (d:=57) D
 clear hv;subst S;refine eP.one (j:=11) aW λis X=>?_;refine FE.st E w λC w O=>X _ _ (eP.none aW ?_)
 replace o:=(O f W).trans o
 replace E:Fa 60 a [(0,.slice ad len cap),(2,pt f),(3,pt B)]:=E.to
 obtain⟨g,hg⟩:∃g:Cf,g=⟨(4*(1+K)),(1+P),(1+R),(4*(1+m)),((4*(1+m))+r4),(1+r5),(1+r6),(1+r7),((4*(1+m))+4+r8)⟩:=⟨_,U⟩
 replace w:C.heap[B]? =Z (au (oU g) 35 (0,0)):=by rw[hg];exact w
 have aX:sB g.sz g.cl g.qu g.mx g.qn g.rt g.bu g.wk g.ou=M:=by subst hg;simp[sB,bfB,cfB,sN,ia];omega
 clear hg;refine FX.sq<|FX.reg [0,1] ?_;refine FE.lcf hT E w λa _ E=>?_;refine FE.vo E (((((((((C.setCell (F f 0)<|I g.sz).setCell (F f 1)<|I g.cl).setCell (F f 2)<|I g.qu).setCell (F f 3)<|I g.mx).setCell (F f 4)<|I g.qn).setCell (F f 5)<|I g.rt).setCell (F f 6)<|I g.bu).setCell (F f 7)<|I g.wk).setCell (F f 8)<|I g.ou) (GO.nil ?_) (hr:=λA=>?_)
 rotate_left
 ·have s:(C.tp A).heap[f]? =_:=o;have c0:=aJ (C.tp A) f 0 (I 0) s;have c1:=aJ (C.tp A) f 1 (I 0) s;have c2:=aJ (C.tp A) f 2 (I 0) s;have c3:=aJ (C.tp A) f 3 (I 0) s;have c4:=aJ (C.tp A) f 4 (I 0) s;have c5:=aJ (C.tp A) f 5 (I 0) s;have c6:=aJ (C.tp A) f 6 (I 0) s;have c7:=aJ (C.tp A) f 7 (I 0) s;have c8:=aJ (C.tp A) f 8 (I 0) s;have f0:=bp s 0;have f1:=bp s 1;have f2:=bp s 2;have f3:=bp s 3;have f4:=bp s 4;have f5:=bp s 5;have f6:=bp s 6;have f7:=bp s 7;have f8:=bp s 8;clear s;go_simp;simp only[IU]
 replace o:=(bG (bG (bG (bG (bG (bG (bG (bG (bG o 0<|I g.sz) 1<|I g.cl) 2<|I g.qu) 3<|I g.mx) 4<|I g.qn) 5<|I g.rt) 6<|I g.bu) 7<|I g.wk) 8<|I g.ou)
 generalize (((((((((C.setCell (F f 0)<|I g.sz).setCell (F f 1)<|I g.cl).setCell (F f 2)<|I g.qu).setCell (F f 3)<|I g.mx).setCell (F f 4)<|I g.qn).setCell (F f 5)<|I g.rt).setCell (F f 6)<|I g.bu).setCell (F f 7)<|I g.wk).setCell (F f 8)<|I g.ou)=J at*
 replace o:J.heap[f]? =Z (au (oU g) 35 (0,0)):=o
 refine FX.rt ⟨U,E.defers,.agg<|oU g,?_,g,U,aX⟩;have h2:=ev (E.at_ 2 _ U);have c0:=aJ J f 0 (I g.sz) o;have c1:=aJ J f 1 (I g.cl) o;have c2:=aJ J f 2 (I g.qu) o;have c3:=aJ J f 3 (I g.mx) o;have c4:=aJ J f 4 (I g.qn) o;have c5:=aJ J f 5 (I g.rt) o;have c6:=aJ J f 6 (I g.bu) o;have c7:=aJ J f 7 (I g.wk) o;have c8:=aJ J f 8 (I g.ou) o;clear o;simp[results,results28,h2];go_simp
end
end
abbrev pz(ps:av Nat):av aB:=ps.map jp
section
end
def gm:ByteArray:=⟨#[70,69,82,82,89,97,103]⟩
section
end
def acH:(prog.info? 49).map (λi=>(i.zero,i.size,i.bytes))=Z (Z<|.pointer aj,1,8):=aW
def ajz(w:aq)(x aqi){T aqf}:((w.alloc<|au x T).alloc<|au aqi aqf).heap[w.heap.size+1]? =Z (au aqi aqf (0,0)):=by have:=heap_alloc_new (w.alloc<|au x T) (au aqi aqf);simpa using this
def AR{a b A B:Int}(h0:0<=a)(c:0<=b)(d:a<=A)(e:b<=B):0<=a*b/\a*b<=A*B:=⟨Int.mul_nonneg h0 c,Int.mul_le_mul d e c Y⟩
def Q9{q c n d X aqg}(o:1<=q/\q<=8)(hc:1<=c/\c<=8)(m:4<=n/\n<=64)(hd:1<=d/\d<=16)(f:X=5*c*n)(k:aqg=X.tdiv 4):
  cJ.wrap (cJ.wrap (cJ.wrap (cJ.wrap (q+1) *cJ.wrap (c+1)) *cJ.wrap (cJ.wrap aqg+4)) *cJ.wrap (d+2))=(q+1) *(c+1) *(aqg+4) *(d+2)/\cJ.wrap (cJ.wrap (5*c) *n)=X/\54*(q+1)<=(q+1) *(c+1) *(aqg+4) *(d+2)/\(q+1) *(c+1) *(aqg+4) *(d+2)<=938952:=by
 have j:20<=X/\X<=2560:=by have i:=AR (a:=c-1) (b:=n) (A:=7) (B:=64) Y Y Y Y;grind
 have l:5<=aqg/\aqg<=640:=j4
 have a1:=AR (a:=q+1) (b:=c+1) (A:=9) (B:=9) Y Y Y Y;have e:=AR (b:=aqg+4) (B:=644) a1.1 Y a1.2 Y;have a3:=AR (b:=d+2) (B:=18) e.1 Y e.2 Y;have b1:2*(q+1)<=(q+1) *(c+1):=by rw[Int.mul_comm 2];exact Kc Y Y
 have g:(q+1) *(c+1) *9<=(q+1) *(c+1) *(aqg+4):=Kc Y a1.1;have h:(q+1) *(c+1) *(aqg+4) *3<=(q+1) *(c+1) *(aqg+4) *(d+2):=Kc Y e.1;refine⟨?_,?_,Y,Y⟩;rw[dI (x:=q+1) Y Y,dI (x:=c+1) Y Y,dI (x:=(q+1) *(c+1)) Y Y,dI (x:=aqg) Y Y,dI (x:=aqg+4) Y Y,dI (x:=(q+1) *(c+1) *(aqg+4)) Y Y,dI (x:=d+2) Y Y,dI Y Y];rw[dI (x:=5*c) Y Y,<-f,dI Y Y]
section
end
section
end
structure Fx.Host(f:Fx)(g:Cf)(wt:Nat->Int)(m:Nat):Prop where
 rest:f.Rest
 gg:f.g=g
 stop:f.stop=aa
 clock:f.clock=0
 bF:f.bF=m
 uX:∀(s:Nat),s<m->f.K[s]? =Z (Z ((Ck.fresh s (wt s) g.bu).send gm))
 out:∀s,m<=s->s<f.K.length->f.K[s]? =Z aj
 idle:f.bD=[]/\f.fl=[]/\f.bO=0/\f.aC=0/\f.opn=aa
def Fx.Host.new{g}(hI:g.Is)(wt):(Fx.new g).Host g wt 0:=⟨.new hI,U,U,U,U,λs a=>by omega,λs _ a=>by have b:s<(rP g.cl.toNat (aj:aV Ck)).length:=a;show(rP g.cl.toNat (aj:aV Ck))[s]? =_;rw[Kn,aO j4],⟨U,U,U,U,U⟩⟩
abbrev wtO(wt:Nat->Int)(m:Nat)(x:Int)(i:Nat):Int:=if i=m then x else wt i
section
variable {f:Fx} {g:Cf} {m:Nat} {wt:Nat->Int} {x:Int}
def Fx.Host.free(h:f.Host g wt m)(hm:(m:Int)<g.cl):f.K[m]? =Z aj:=h.out m (aR _) (by have:=h.rest.core.len;rw[h.gg]at this;omega)
def Fx.Host.at (h:f.Host g wt m)(hm:(m:Int)<g.cl):(f.jV m x).K[m]? =Z (Z<|Ck.fresh f.bF x f.g.bu):=iy (bY.1<|h.free hm).1
def Fx.Host.send(h:f.Host g wt m)(hm:(m:Int)<g.cl)(d:1<=x/\x<=4):((f.jV m x).send m (Ck.fresh f.bF x f.g.bu) gm).2=0/\((f.jV m x).send m (Ck.fresh f.bF x f.g.bu) gm).1.Host g (wtO wt m x) (m+1):=by
 have b:=(h.rest.jV (h.free hm) d).send (h.at hm) gm;have e:(f.jV m x).send m (Ck.fresh f.bF x f.g.bu) gm=((f.jV m x).at m<|(Ck.fresh f.bF x f.g.bu).send gm,0):=by unfold Fx.send;rw[aI acu,aI (show ¬1024<(Ck.fresh f.bF x f.g.bu).aN.size+gm.size from(by decide:¬1024<(⟨#[]⟩:ByteArray).size+gm.size))]
 rw[e]at b⊢;have j:=(bY.1<|h.free hm).1;refine⟨U,b,h.gg,h.stop,h.clock,by show f.bF+1=_;rw[h.bF];rfl,λs k=>?_,λs i c=>?_,h.idle⟩;show((f.K.set m _).set m _)[s]? =_;rw[pK,rM];split;rename_i e;subst e;rw[h.bF,h.gg];grind;rename_i e;rw[h.uX s Y];grind;show((f.K.set m _).set m _)[s]? =_;have a:s<((f.K.set m _).set m _).length:=c;rw[pK,rM,aI Y];simp at a;exact h.out s Y a
end
def Ib(n w)(h0:0<=n)(e:n<=65535):
  bN 95 #[I n] w (.string ⟨(cu n).toArray⟩):=by
 have a:=Ar (n %256) Y Y;have b1:=Ar (n / 256) Y Y;have d:=yd (w.alloc<|au #[.int .u8<|n %256,.int .u8<|n / 256] 5) 158 9 5 ⟨w.heap.size,0,aj⟩ 2 (cu n) underlying158 underlying5 underlying9
 have b:∀(j:Nat) (c:j<(cu n).length),(w.alloc<|au #[.int .u8<|n %256,.int .u8<|n / 256] 5).cell? ((⟨w.heap.size,0,aj⟩:iL).add j)=Z (.int .u8 ((cu n)[j].toNat:Int)):=by
  intro j c;match j,c with
  |0,_=>simp only[cu,uz,a];simp[Addr.add,go_sem]
  |1,_=>simp only[cu,BT,uz,b1];simp[Addr.add,go_sem]
 have kd:(convert 158 9<|.slice (Z<|F w.heap.size 0) 2 2).run prog (w.alloc<|au #[.int .u8<|n %256,.int .u8<|n / 256] 5)=.ok (.string ⟨(cu n).toArray⟩) (w.alloc<|au #[.int .u8<|n %256,.int .u8<|n / 256] 5):=d b;have m1:n.tmod 256=n %256:=j4
 have m2:n.tdiv 256=n / 256:=j4
 clear d b a b1;go_enter func95,ntmps95;go_wp2;go_ret;exact⟨U,bq⟩
section
variable {P:Program} {md:Region.Mode} {ops:aF Oper} {Q:Exit->Act->aq->Prop} {S S':aq->Prop} {s:Nat}
def zo(h:∀w,S' w->S w):∀(fuel:Nat) (listed:aF Bool) (a:Act) (w:aq),pG P md ops Q S' s fuel listed a w->pG P md ops Q S s fuel listed a w
 |0,_,_,_,b=>b|fuel+1,_,_,_,b=>⟨b.1,λi f=>wpOpIn_mono (λd g c=>⟨λe=>h _ (c.1 e),zo h fuel _ d g c.2⟩) (b.2 i f)⟩
def g2{o o' fuel listed a w}(i j)(h:∀b:Act->aq->Prop,Shut (∀a w,S w->(S w->pG P md ops Q S s fuel (listed.setIfInBounds i M) a w)->b a w)->if cY o (yielded ops a.tmps)=M then tr P o a w b Q else b (a.put o.dst y) w)(k:∀b:Act->aq->Prop,Shut (∀a w,S w->(S w->pG P md ops Q S s fuel (listed.setIfInBounds j M) a w)->b a w)->if cY o' (yielded ops a.tmps)=M then tr P o' a w b Q else b (a.put o'.dst y) w)(f:ops[i]? =Z o:=by rfl) (l:ops[j]? =Z o':=by rfl) (hr:Region.ready md ops listed=[i,j]:=by kernel_rfl):pG P md ops Q S s (fuel+1) listed a w:=by
 refine⟨λh0=>j4,?_⟩;rw[hr];intro x m;have key:∀(x:Nat) (o:Oper),ops[x]? =Z o->(∀b:Act->aq->Prop,Shut (∀a w,S w->(S w->pG P md ops Q S s fuel (listed.setIfInBounds x M) a w)->b a w)->if cY o (yielded ops a.tmps)=M then tr P o a w b Q else b (a.put o.dst y) w)->wpOpIn Fence.wide 0 P ops Q x (λd c=>((listed.setIfInBounds x M).getD s M=aa->S c)/\pG P md ops Q S s fuel (listed.setIfInBounds x M) d c) a w:=λx o f h=>by unfold wpOpIn;simp only[f];have:=h (λd c=>((listed.setIfInBounds x M).getD s M=aa->S c)/\pG P md ops Q S s fuel (listed.setIfInBounds x M) d c) (λa w g h=>⟨λ_=>g,h g⟩);split;rename_i e;rw[aO e]at this;exact PS this;rename_i e;rw[aI e]at this;exact⟨λ_ _=>trivial,this⟩
 grind
end
abbrev wsL(u ck kd fl of ln:Int)(dt:ByteArray)(at_ back er:Int)(tx:ByteArray):aF aB:=#[I u,I ck,I kd,I fl,I of,I ln,.string dt,I at_,I back,I er,.string tx]
abbrev pU(w:aq)(a:Nat)(ck kd fl of ln:Int)(dt:ByteArray)(W:aq):Prop:=W.cell? (F a 1)=Z (I ck)/\W.cell? (F a 2)=Z (I kd)/\W.cell? (F a 3)=Z (I fl)/\W.cell? (F a 4)=Z (I of)/\W.cell? (F a 5)=Z (I ln)/\W.cell? (F a 6)=Z (.string dt)/\aK w W
def pU.old{w W W' wb ck kd fl of ln dt}(h:pU w wb ck kd fl of ln dt W)(a:aK W W'):pU w wb ck kd fl of ln dt W':=by let⟨a1,c,a3,d,e,f,b⟩:=h;exact⟨bH a a1,bH a c,bH a a3,bH a d,bH a e,bH a f,b.trans<|a.mono b.size⟩
def zi(a b:Int):ByteArray:=⟨#[ji a.toNat,ji b.toNat]⟩
def X0(a b)(c:0<=a/\a<256)(d:0<=b/\b<256)(n w)(h:w.heap[n]? =Z (au #[.int .u8 a,.int .u8 b] 5 (0,0))):(convert 158 9<|.slice (Z<|F n 0) 2 2).run prog w=.ok (.string<|zi a b) w:=by
 refine yd w 158 9 5 ⟨n,0,aj⟩ 2 [ji a.toNat,ji b.toNat] underlying158 underlying5 underlying9 λj f=>?_;match j,f with
 |0,_=>simp only[uz,Ar a c.1 c.2];exact aD h U
 |1,_=>simp only[BT,uz,Ar b d.1 d.2];exact aD h U
def akk(c:Nat)(u ck kd fl of ln:Int)(dt:ByteArray)(at_ back er:Int)(tx:ByteArray)(w:aq)(h:w.heap[c]? =Z (au (wsL u ck kd fl of ln dt at_ back er tx) 53 (0,0)))(x:0<=ck/\ck<=65535)(D:0<=kd/\kd<256)(C:0<=fl/\fl<256)(A:0<=of/\of<=65535)(z:0<=ln/\ln<=65535)(N:dt.size<=65535):
  bN 58 #[jp c] w (.string<|⟨#[81]⟩++zi kd fl++⟨(cu ck).toArray⟩++⟨(cu of).toArray⟩++⟨(cu ln).toArray⟩++dt):=by
 have E:Hid (pU w c ck kd fl of ln dt w.drew):=⟨aD h U,aD h U,aD h U,aD h U,aD h U,aD h U,(Below.refl _ _).drew⟩;have B:Hid (∀W,bN 95 #[I ck] W<|.string ⟨(cu ck).toArray⟩):=λW=>Ib ck W x.1 x.2;have t:Hid (∀W,bN 95 #[I of] W<|.string ⟨(cu of).toArray⟩):=λW=>Ib of W A.1 A.2;have o:Hid (∀W,bN 95 #[I ln] W<|.string ⟨(cu ln).toArray⟩):=λW=>Ib ln W z.1 z.2;have p:Hid (∀(n:Nat) (w:aq),w.heap[n]? =Z (au #[.int .u8 kd,.int .u8 fl] 5 (0,0))->(convert 158 9<|.slice (Z<|F n 0) 2 2).run prog w=.ok (.string<|zi kd fl) w):=X0 kd fl D C;have O:BM.wrap kd=kd:=by have:BM.wrap kd=kd %256:=U;omega
 have R:BM.wrap fl=fl:=by have:BM.wrap fl=fl %256:=U;omega
 have T:(zi kd fl).size=2:=U;have V:(⟨(cu ck).toArray⟩:ByteArray).size=2:=U;have X:(⟨(cu of).toArray⟩:ByteArray).size=2:=U;have s3:(⟨(cu ln).toArray⟩:ByteArray).size=2:=U;generalize zi kd fl=q at*;generalize (⟨(cu ck).toArray⟩:ByteArray)=G at*;generalize (⟨(cu of).toArray⟩:ByteArray)=H at*;generalize (⟨(cu ln).toArray⟩:ByteArray)=J at*;have L:¬9223372036854775807<9+dt.size:=Y;clear h x D C A z;go_enter func58,ntmps58
 go_upto_region 1 with fail
 refine gY (S:=pU w c ck kd fl of ln dt) 36 E λhS=>?_;apply tg [0,1,2,3,4,5,6,7];apply tg [8,9,13,14,15,16,19,20];apply tg [21,22,25,26,27,28,31,32];apply tg [33,34];refine g2 10 17 (λK a=>?_) λK a=>?_
 ·go_simp;refine a _ _ (hS.old<|bq) λb=>?_;clear a K;apply zo (S':=λW=>pU w c ck kd fl of ln dt W/\W.heap[w.heap.size]? =Z (au #[.int .u8 kd,.int .u8 fl] 5 (0,0))) (λ_ h=>h.1) _ _ _ _;have d:pU w c ck kd fl of ln dt (w.alloc<|au #[.int .u8 kd,.int .u8 fl] 5).drew/\(w.alloc<|au #[.int .u8 kd,.int .u8 fl] 5).drew.heap[w.heap.size]? =Z (au #[.int .u8 kd,.int .u8 fl] 5 (0,0)):=⟨b,heap_alloc_new w<|au #[.int .u8 kd,.int .u8 fl] 5⟩;clear hS b;have hS:=d;clear d;refine tg [11] ?_ (bS.g (v:=.string q) (hy:=az ⟨by kernel_rfl,aA ⟨U,λW j=>by go_simp;rw[p _ _ j.2];rfl⟩⟩) (h:=.nil));apply tg [12];refine gr 17 λK a=>?_;go_simp;go_at_call 95;apply(B _).mono;rintro e m ⟨rfl,r⟩;refine a _ _ ⟨hS.1.old r,bT r hS.2⟩ λb=>?_;clear a K hS;have hS:=b;clear b;apply tg [18];refine gr 23 λK a=>?_;go_simp;go_at_call 95;apply(t _).mono;rintro e l ⟨rfl,k⟩;refine a _ _ ⟨hS.1.old k,bT k hS.2⟩ λb=>?_;clear a K hS;have hS:=b;clear b;apply tg [24];refine gr 29 λK a=>?_;go_simp;go_at_call 95;apply(o _).mono;rintro e i ⟨rfl,f⟩;refine a _ _ ⟨hS.1.old f,bT f hS.2⟩ λb=>?_;clear a K hS;have hS:=b;clear b;apply tg [30,35];refine gz λK a=>?_;go_simp;apply a _ _;clear a K;refine gl ?_;go_wp2_with fail;go_ret;exact alb
 go_simp;go_at_call 95;apply(B _).mono;rintro e m ⟨rfl,r⟩;refine a _ _ (hS.old r) λb=>?_;clear a K hS;have hS:=b;clear b;refine g2 10 23 (λK a=>?_) λK a=>?_
 ·go_simp;refine a _ _ (hS.old<|bq) λb=>?_;clear a K;apply zo (S':=λW=>pU w c ck kd fl of ln dt W/\W.heap[m.heap.size]? =Z (au #[.int .u8 kd,.int .u8 fl] 5 (0,0))) (λ_ h=>h.1) _ _ _ _;have d:pU w c ck kd fl of ln dt (m.alloc<|au #[.int .u8 kd,.int .u8 fl] 5)/\(m.alloc<|au #[.int .u8 kd,.int .u8 fl] 5).heap[m.heap.size]? =Z (au #[.int .u8 kd,.int .u8 fl] 5 (0,0)):=⟨b,heap_alloc_new m<|au #[.int .u8 kd,.int .u8 fl] 5⟩;clear hS b;have hS:=d;clear d;refine tg [11] ?_ (bS.g (v:=.string q) (hy:=az ⟨by kernel_rfl,aA ⟨U,λW j=>by go_simp;rw[p _ _ j.2];rfl⟩⟩) (h:=.nil));apply tg [12,18];refine gr 23 λK a=>?_;go_simp;go_at_call 95;apply(t _).mono;rintro e l ⟨rfl,k⟩;refine a _ _ ⟨hS.1.old k,bT k hS.2⟩ λb=>?_;clear a K hS;have hS:=b;clear b;apply tg [24];refine gr 29 λK a=>?_;go_simp;go_at_call 95;apply(o _).mono;rintro e i ⟨rfl,f⟩;refine a _ _ ⟨hS.1.old f,bT f hS.2⟩ λb=>?_;clear a K hS;have hS:=b;clear b;apply tg [30,35];refine gz λK a=>?_;go_simp;apply a _ _;clear a K;refine gl ?_;go_wp2_with fail;go_ret;exact alb
 go_simp;go_at_call 95;apply(t _).mono;rintro e l ⟨rfl,k⟩;refine a _ _ (hS.old k) λb=>?_;clear a K hS;have hS:=b;clear b;refine g2 10 29 (λK a=>?_) λK a=>?_
 ·go_simp;refine a _ _ (hS.old<|bq) λb=>?_;clear a K;apply zo (S':=λW=>pU w c ck kd fl of ln dt W/\W.heap[l.heap.size]? =Z (au #[.int .u8 kd,.int .u8 fl] 5 (0,0))) (λ_ h=>h.1) _ _ _ _;have d:pU w c ck kd fl of ln dt (l.alloc<|au #[.int .u8 kd,.int .u8 fl] 5)/\(l.alloc<|au #[.int .u8 kd,.int .u8 fl] 5).heap[l.heap.size]? =Z (au #[.int .u8 kd,.int .u8 fl] 5 (0,0)):=⟨b,heap_alloc_new l<|au #[.int .u8 kd,.int .u8 fl] 5⟩;clear hS b;have hS:=d;clear d;refine tg [11] ?_ (bS.g (v:=.string q) (hy:=az ⟨by kernel_rfl,aA ⟨U,λW j=>by go_simp;rw[p _ _ j.2];rfl⟩⟩) (h:=.nil));apply tg [12,18,24];refine gr 29 λK a=>?_;go_simp;go_at_call 95;apply(o _).mono;rintro e i ⟨rfl,f⟩;refine a _ _ ⟨hS.1.old f,bT f hS.2⟩ λb=>?_;clear a K hS;have hS:=b;clear b;apply tg [30,35];refine gz λK a=>?_;go_simp;apply a _ _;clear a K;refine gl ?_;go_wp2_with fail;go_ret;exact alb
 go_simp;go_at_call 95;apply(o _).mono;rintro e i ⟨rfl,f⟩;refine a _ _ (hS.old f) λb=>?_;clear a K hS;have hS:=b;clear b;refine gr 10 λK a=>?_;go_simp;refine a _ _ (hS.old<|bq) λb=>?_;clear a K;apply zo (S':=λW=>pU w c ck kd fl of ln dt W/\W.heap[i.heap.size]? =Z (au #[.int .u8 kd,.int .u8 fl] 5 (0,0))) (λ_ h=>h.1) _ _ _ _;have d:pU w c ck kd fl of ln dt (i.alloc<|au #[.int .u8 kd,.int .u8 fl] 5)/\(i.alloc<|au #[.int .u8 kd,.int .u8 fl] 5).heap[i.heap.size]? =Z (au #[.int .u8 kd,.int .u8 fl] 5 (0,0)):=⟨b,heap_alloc_new i<|au #[.int .u8 kd,.int .u8 fl] 5⟩;clear hS b;have hS:=d;clear d;refine tg [11] ?_ (bS.g (v:=.string q) (hy:=az ⟨by kernel_rfl,aA ⟨U,λW j=>by go_simp;rw[p _ _ j.2];rfl⟩⟩) (h:=.nil));apply tg [12,18,24,30,35];refine gz λK a=>?_;go_simp;apply a _ _;clear a K;refine gl ?_;go_wp2_with fail;go_ret;exact alb
structure Wi where
 u:Nat
 ck:Nat
 kd:Int
 fl:Int
 of:Int
 ln:Int
 dt:ByteArray
 at_:Int
 bk:Int
 er:Int
 tx:ByteArray
structure Sl where
 wt:Int
 hd:ByteArray
 aw:Bool
structure Cw where
 S:av Sl
 W:av Wi
 now:Int
 dl:Int
 ck:Nat
structure Cm where
 lv:aB
 wv:aB
 ps:av Nat
 qs:av Nat
abbrev mI(r:Wi):aF aB:=#[I r.u,I r.ck,I r.kd,I r.fl,I r.of,I r.ln,.string r.dt,I r.at_,I r.bk,I r.er,.string r.tx]
abbrev vh(i:Nat)(s:Sl):aF aB:=#[I i,I s.wt,.string s.hd,.bool s.aw]
abbrev uQ(g:Cf)(xb:Nat)(c:Cw)(m:Cm):aF aB:=#[I g.sz,I g.cl,I g.qu,I g.mx,I g.qn,I g.rt,I g.bu,I g.wk,I g.ou,jp xb,m.lv,m.wv,I c.now,I c.dl,I c.ck]
structure bz(u:aq)(g:Cf)(cb xb:Nat)(f:Fx)(c:Cw)(L:cZ)(m:Cm):Prop where
 fx:aE u f xb L
 cr:u.heap[cb]? =Z (au (uQ g xb c m) 40 (0,0))
 gV:u.ownsRow 0 49 1 m.lv c.S.length (pz m.ps)
 jW:u.ownsRow 0 54 1 m.wv c.W.length (pz m.qs)
 sl:∀(i p:Nat) s,m.ps[i]? =Z p->c.S[i]? =Z s->u.heap[p]? =Z (au (vh i s) 66 (0,0))/\L.own p=0
 ws:∀(j q:Nat) r,m.qs[j]? =Z q->c.W[j]? =Z r->u.heap[q]? =Z (au (mI r) 53 (0,0))/\L.own q=0
 nd:m.ps.Nodup/\m.qs.Nodup
 own:L.own cb=0/\(∀b,m.lv.ownBlock=Z b->L.own b=0)/\∀b,m.wv.ownBlock=Z b->L.own b=0
 no:∀b,u.heap.size<=b->L.own b=0
def uH(u:aq)(g:Cf)(cb xb:Nat)(f:Fx)(c:Cw)(ps:av Nat):Prop:=∃L m,bz u g cb xb f c L m/\ps<+:m.ps
section
variable {u u':aq} {g:Cf} {cb xb:Nat} {f f':Fx} {c:Cw} {L L':cZ} {m:Cm}
def bz.NQ(T:bz u g cb xb f c L m):m.ps.length=c.S.length:=by have:=T.gV.1;simpa using this
def bz.Od(T:bz u g cb xb f c L m):m.qs.length=c.W.length:=by have:=T.jW.1;simpa using this
def bz.Bg(T:bz u g cb xb f c L m){i s}(h:c.S[i]? =Z s):∃p:Nat,m.ps[i]? =Z p/\u.heap[p]? =Z (au (vh i s) 66 (0,0))/\L.own p=0:=by have a:=(bY.1 h).1;have:=T.NQ;have e:m.ps[i]? =Z (m.ps[i]'Y):=dj _;exact⟨_,e,T.sl i _ s e h⟩
def bz.Jy(T:bz u g cb xb f c L m){j:Nat}{r}(h:c.W[j]? =Z r):∃q:Nat,m.qs[j]? =Z q/\u.heap[q]? =Z (au (mI r) 53 (0,0))/\L.own q=0:=by have a:=(bY.1 h).1;have:=T.Od;have e:m.qs[j]? =Z (m.qs[j]'Y):=dj _;exact⟨_,e,T.ws j _ r e h⟩
def yW{w:aq}{S k n v xs}(h:w.ownsRow 0 S k v n xs){b}(a:v.ownBlock=Z b):∃c,w.heap[b]? =Z (au c S (0,0)):=by rcases h.2 with⟨e,_⟩|⟨g0,j,d,e,_,i,_⟩;rw[e]at a;cases a;rw[e]at a;cases a;exact⟨d,i⟩
def bz.move{c' m'}(T:bz u g cb xb f c L m)(d:∀b,b<u.heap.size->L.own b≠0->u'.heap[b]? =u.heap[b]?)(l:u.heap.size<=u'.heap.size)(a:u'.heap[cb]? =Z (au (uQ g xb c' m') 40 (0,0)))(lr:u'.ownsRow 0 49 1 m'.lv c'.S.length (pz m'.ps))(wr:u'.ownsRow 0 54 1 m'.wv c'.W.length (pz m'.qs))(sl:∀(i p:Nat) s,m'.ps[i]? =Z p->c'.S[i]? =Z s->u'.heap[p]? =Z (au (vh i s) 66 (0,0))/\L.own p=0)(h:∀(j q:Nat) r,m'.qs[j]? =Z q->c'.W[j]? =Z r->u'.heap[q]? =Z (au (mI r) 53 (0,0))/\L.own q=0)(e:m'.ps.Nodup/\m'.qs.Nodup)(ow:(∀b,m'.lv.ownBlock=Z b->L.own b=0)/\∀b,m'.wv.ownBlock=Z b->L.own b=0):bz u' g cb xb f c' L m':=⟨T.fx.yE d,a,lr,wr,sl,h,e,⟨T.own.1,ow⟩,λb k=>T.no b Y⟩
def bz.go(T:bz u g cb xb f c L m)(h:aE u' f' xb L')(t:bE u L u' L'):∃L',bz u' g cb xb f' c L' m:=by let⟨d,v,t2,w⟩:=h.norm t;have keep:∀b,b<u.heap.size->L.own b=0->u'.heap[b]? =u.heap[b]? /\d.own b=0:=λb a h0=>⟨t.cy.block b a λx=>x h0,(t2.own b a).trans h0⟩;have blk:∀{b:Nat} {o:Obj},u.heap[b]? =Z o->L.own b=0->u'.heap[b]? =Z o/\d.own b=0:=λh h0=>have k:=keep _ (bf.1 h).1 h0;⟨k.1.trans h,k.2⟩;exact⟨d,v,(blk T.cr T.own.1).1,eF T.gV λb a=>(keep b (jJ T.gV b a)<|T.own.2.1 b a).1,eF T.jW λb a=>(keep b (jJ T.jW b a)<|T.own.2.2 b a).1,λi p s e n=>blk (T.sl i p s e n).1 (T.sl i p s e n).2,λj q r l hr=>blk (T.ws j q r l hr).1 (T.ws j q r l hr).2,T.nd,⟨(blk T.cr T.own.1).2,λb a=>(keep b (jJ T.gV b a)<|T.own.2.1 b a).2,λb a=>(keep b (jJ T.jW b a)<|T.own.2.2 b a).2⟩,w⟩
def bz.old(T:bz u g cb xb f c L m)(a:∀b,b<u.heap.size->u'.heap[b]? =u.heap[b]?):bz u' g cb xb f c L m:=by have k:∀{b:Nat} {o:Obj},u.heap[b]? =Z o->u'.heap[b]? =Z o:=λh=>(a _ (bf.1 h).1).trans h;refine⟨T.fx.old a,k T.cr,eF T.gV λb h=>a b (jJ T.gV b h),eF T.jW λb h=>a b (jJ T.jW b h),λi p s d l=>⟨k (T.sl i p s d l).1,(T.sl i p s d l).2⟩,λj q r e hr=>⟨k (T.ws j q r e hr).1,(T.ws j q r e hr).2⟩,T.nd,T.own,λb h=>T.no b (xW λn=>?_)⟩;grind
def bz.below(T:bz u g cb xb f c L m)(a:aK u u'):bz u' g cb xb f c L m:=T.old λb h=>a.block b h
def bz.tp(T:bz u g cb xb f c L m)(a:Tape):bz (u.tp a) g cb xb f c L m:=T.old λ_ _=>U
def uH.tp{ps}(T:uH u g cb xb f c ps)(a:Tape):uH (u.tp a) g cb xb f c ps:=by let⟨L,m,T,h⟩:=T;exact⟨L,m,T.tp a,h⟩
def bz.Iv(T:bz u g cb xb f c L m){i p s}(E:m.ps[i]? =Z p)(G:i<c.S.length)(B:u'.heap[p]? =Z (au (vh i s) 66 (0,0)))(l:∀b,b≠p->u'.heap[b]? =u.heap[b]?):bz u' g cb xb f {c with S:=c.S.set i s} L m:=by
 obtain⟨o,H⟩:∃o,c.S[i]? =Z o:=⟨_,dj G⟩;let⟨a1,A⟩:=T.sl i p o E H;have ne:∀{b:Nat} {x:aF aB} {V:aY},u.heap[b]? =Z (au x V (0,0))->V≠66->u'.heap[b]? =Z (au x V (0,0)):=λh C=>(l _<|mC h a1 C).trans h;have w:∀{S k n:Nat} {v:aB} {z:av aB},u.ownsRow 0 S k v n z->S≠66->u'.ownsRow 0 S k v n z:=λh hS=>eF h λb t=>by let⟨x,a⟩:=yW h t;exact(ne a hS).trans a.symm
 refine T.move (λb t D=>l b λe=>D (e▸A)) ?_ (ne T.cr aM) (by show u'.ownsRow 0 _ 1 m.lv (c.S.set i s).length _;rw[jB];exact w T.gV aM) (w T.jW aM) (λk q x d a=>?_) (λj q r d hr=>⟨ne (T.ws j q r d hr).1 aM,(T.ws j q r d hr).2⟩) T.nd T.own.2;have:=(bf.1 B).1;refine xW λK=>?_;have e:=l u'.heap.size Y;grind;have a:=a;by_cases e:k=i;subst e;grind;rw[gQ<|dB e]at a;let⟨b1,J⟩:=T.sl k q x d a;grind
def bz.afv(T:bz u g cb xb f c L m){j q r}(d:m.qs[j]? =Z q)(o:j<c.W.length)(G:u'.heap[q]? =Z (au (mI r) 53 (0,0)))(l:∀b,b≠q->u'.heap[b]? =u.heap[b]?):bz u' g cb xb f {c with W:=c.W.set j r} L m:=by
 obtain⟨w,K⟩:∃w,c.W[j]? =Z w:=⟨_,dj o⟩;let⟨a1,C⟩:=T.ws j q w d K;have ne:∀{b:Nat} {x:aF aB} {V:aY},u.heap[b]? =Z (au x V (0,0))->V≠53->u'.heap[b]? =Z (au x V (0,0)):=λh H=>(l _<|mC h a1 H).trans h;have A:∀{S k n:Nat} {v:aB} {B:av aB},u.ownsRow 0 S k v n B->S≠53->u'.ownsRow 0 S k v n B:=λh hS=>eF h λb z=>by let⟨x,a⟩:=yW h z;exact(ne a hS).trans a.symm
 refine T.move (λb z J=>l b λe=>J (e▸C)) ?_ (ne T.cr aM) (A T.gV aM) (by show u'.ownsRow 0 _ 1 m.wv (c.W.set j r).length _;rw[jB];exact A T.jW aM) (λi p s d o=>⟨ne (T.sl i p s d o).1 aM,(T.sl i p s d o).2⟩) (λk p x t a=>?_) T.nd T.own.2;have:=(bf.1 G).1;refine xW λN=>?_;have e:=l u'.heap.size Y;grind;have a:=a;by_cases e:k=j;subst e;grind;rw[gQ<|dB e]at a;let⟨b1,D⟩:=T.ws k p x t a;refine⟨(l p λE=>e ?_).trans b1,D⟩;subst E;exact(List.getElem?_inj (bY.1 t).1 T.nd.2).1 (t.trans d.symm)
end
def Ed(c n w)(hc:dy c)(h0:0<n)(b:n<=9223372036854775807):
  eZ 21 #[I c,I n] w (I<|eX c n):=by
 suffices H:Calls prog 21 #[I c,I n] w λe f=>∃r,e=aG (I r)/\r=eX c n/\f=w from H.mono λe f ⟨r,b,g,h⟩=>⟨by rw[b,g],h⟩
 unfold dy at hc;have k:¬n=0:=Y
 by_cases d:c<0
 ·have i:cJ.wrap (c+1)=c+1:=by rw[vL];omega
  have j:cJ.wrap (-(c+1))= -(c+1):=by rw[vL];omega
  have a:Hid (eX c n=(-(c+1)).tmod n):=by unfold eX;rw[aO d];rfl
  go_enter func21,ntmps21;go_wp2;go_ret;exact⟨_,U,by first|exact a.symm|(rw[<-Int.neg_tmod];exact a.symm),rfl⟩
 have a:Hid (eX c n=c.tmod n/\c %n=c.tmod n):=⟨by unfold eX;rw[aI d],(EY Y).symm⟩;go_enter func21,ntmps21;go_wp2;go_ret;exact⟨_,U,by first|exact a.1.symm|(rw[a.2];exact a.1.symm),rfl⟩
def aeF(cb xb g f)(c:Cw)(L)(m:Cm)(w)(h:bz w g cb xb f c L m)(x)(t:dy x)(i p:Nat)(s:Sl)(o:(i:Int)=eX x c.S.length)(a:c.S[i]? =Z s)(q:m.ps[i]? =Z p)(hl:c.S.length<=1099511627776):
  Calls prog 55 #[jp cb,I x] w λe b=>e=aG (if s.aw then .pointer aj else jp p)/\∃k,b=w.drewN k:=by
 have v:=Kw (cO _) (bY.1 a).1
 let⟨u,cap,ev,l⟩:=yV h.gV v
 have A:=l i (jp p) j4;have z:w.cell? (F cb 10)=Z (.slice (Z<|F u 0) c.S.length cap):=ev▸aD h.cr U;have j:w.cell? (F p 3)=Z (.bool s.aw):=aD (h.sl i p s q a).1 U
 have d:Hid (∀n,Calls prog 21 #[I x,I c.S.length] (w.drewN n) λe b=>e=aG (I i)/\b=w.drewN n):=λn=>by rw[o];exact Ed x c.S.length _ t Y Y
 have B:0<=(i:Int)/\(i:Int)<(c.S.length:Int):=by have:=(bY.1 a).1;omega
 have C:¬(c.S.length:Int)=0:=Y;have D:¬c.S.length=0:=Y;clear h o a q l ev t;generalize c.S.length=n at*;cases r:s.aw with
 |true=>rw[r]at j;go_enter func55,ntmps55;go_wp2;go_quiet ((go_at_call 21;exact ur (d _)));go_wp2;go_ret;exact⟨U,_,U⟩
 |false=>rw[r]at j;go_enter func55,ntmps55;go_wp2;go_quiet ((go_at_call 21;exact ur (d _)));go_wp2;go_ret;exact⟨U,_,U⟩
def qx(ck:Int):Nat->ByteArray
 |0=>⟨#[]⟩|n+1=>qx ck n++⟨#[119]⟩++⟨(cu ck).toArray⟩++⟨#[ji<|1+n]⟩
def IS(ck):∀n,(qx ck n).size=4*n
 |0=>rfl|n+1=>by show(qx ck n++⟨#[119]⟩++⟨(cu ck).toArray⟩++⟨#[ji<|1+n]⟩).size=_;rw[qB,qB,qB,IS ck n];show 4*n+1+2+1=_;omega
def W8(a)(b:0<=a/\a<256)(n w)(h:w.heap[n]? =Z (au #[.int .u8 a] 5 (0,0))):(convert 158 9<|.slice (Z<|F n 0) 1 1).run prog w=.ok (.string ⟨#[ji a.toNat]⟩) w:=by
 refine yd w 158 9 5 ⟨n,0,aj⟩ 1 [ji a.toNat] underlying158 underlying5 underlying9 λj d=>?_;match j,d with
 |0,_=>simp only[uz,Ar a b.1 b.2];exact aD h U
def akB(ck ln w)(r:0<=ck/\ck<=65535)(C:0<=ln/\ln<=256):
  bN 94 #[I ck,I ln] w (.string<|qx ck (ln / 4).toNat):=by
 obtain⟨N,z⟩:∃N:Nat,ln / 4=(N:Int):=⟨(ln / 4).toNat,Y⟩;rw[show(ln / 4).toNat=N by omega];have p:Hid (∀W,bN 95 #[I ck] W<|.string ⟨(cu ck).toArray⟩):=λW=>Ib ck W r.1 r.2;have E:ln.tdiv 4=(N:Int):=j4
 have A:N<=64:=Y;have H:cJ.wrap (N:Int)=N:=dI Y Y;have s:Hid (∀n,(qx ck<|n+1)=qx ck n++⟨#[119]⟩++⟨(cu ck).toArray⟩++⟨#[ji<|1+n]⟩):=λ_=>U;have O:(⟨(cu ck).toArray⟩:ByteArray).size=2:=U;generalize (⟨(cu ck).toArray⟩:ByteArray)=x at*;go_enter func94,ntmps94;go_wp2
 go_loopw [5,6] (λu l wr=>∃i:Nat,i<=N/\u=.string (qx ck i)/\l=I i/\aK w wr) (λ_ l _=>N-(dw l).toNat)
 case atStart=>exact⟨0,cO _,U,U,Below.refl _ _⟩
 case round=>
  obtain⟨i,B,rfl,rfl,c⟩:=hrel;by_cases D:i<N
  ·have t:(i:Int)<(N:Int):=Y;have G:=IS ck i;have m:Hid (∀(n:Nat) (w:aq),w.heap[n]? =Z (au #[.int .u8<|1+i] 5 (0,0))->(convert 158 9<|.slice (Z<|F n 0) 1 1).run prog w=.ok (.string ⟨#[ji<|1+i]⟩) w):=λn w h=>by have:=W8 (1+i) Y n w h;rwa [show(1+(i:Int)).toNat=1+i by omega]at this
   have o:=s i;have J:cJ.wrap (1+(i:Int))=1+i:=dI Y Y;have L:BM.wrap (1+(i:Int))=1+i:=by have:BM.wrap (1+(i:Int))=(1+(i:Int))%256:=U;omega
   have Q:¬9223372036854775807<4*i+1:=Y;have R:¬9223372036854775807<4*i+1+2:=Y;have T:¬9223372036854775807<4*i+1+2+1:=Y;have P:(⟨#[ji<|1+i]⟩:ByteArray).size=1:=U;generalize (⟨#[ji<|1+i]⟩:ByteArray)=q at*;generalize qx ck i=X at*
   go_upto_region 5 with fail;refine gY (S:=λW=>aK wr W) 11 ((Below.refl _ _).drew) λhS=>?_;apply tg [0,1,2,5,6,7];refine g2 3 8 (λK a=>?_) λK a=>?_
   ·go_simp;go_at_call 95;apply(p _).mono;rintro e b ⟨rfl,b1⟩;refine a _ _ (hS.trans<|b1.mono hS.size) λd=>?_;clear a K hS;apply tg [4];refine gr 8 λK a=>?_;go_simp;refine a _ _ (d.trans<|(Below.refl _ b).alloc d.size _) λf=>?_;clear a K;have j:=heap_alloc_new b (au #[.int .u8<|1+i] 5);apply zo (S':=λW=>aK wr W/\W.heap[b.heap.size]? =Z (au #[.int .u8<|1+i] 5 (0,0))) (λ_ h=>h.1) _ _ _ _;have hS:aK wr (b.alloc<|au #[.int .u8<|1+i] 5)/\(b.alloc<|au #[.int .u8<|1+i] 5).heap[b.heap.size]? =Z (au #[.int .u8<|1+i] 5 (0,0)):=⟨f,j⟩;clear d f j;refine tg [9] ?_ (bS.g (v:=.string q) (hy:=az ⟨by kernel_rfl,aA ⟨U,λW k=>by go_simp;rw[m _ _ k.2];rfl⟩⟩) (h:=.nil));apply tg [10];refine gz λK a=>?_;go_simp;apply a _ _;clear a K;refine gl ?_;go_wp2;go_roundw;case rel=>exact⟨i+1,Y,by rw[o],by go_num,c.trans<|hS.1.mono c.size⟩
    case measure=>simp[dw];omega
   go_simp;refine a _ _ (((Below.refl _ wr).alloc (aR _) _).drew) λf=>?_;clear a K hS;have j:=heap_alloc_new wr (au #[.int .u8<|1+i] 5);apply zo (S':=λW=>aK wr W/\W.heap[wr.heap.size]? =Z (au #[.int .u8<|1+i] 5 (0,0))) (λ_ h=>h.1) _ _ _ _;have hS:aK wr (wr.alloc<|au #[.int .u8<|1+i] 5).drew/\(wr.alloc<|au #[.int .u8<|1+i] 5).drew.heap[wr.heap.size]? =Z (au #[.int .u8<|1+i] 5 (0,0)):=⟨f,j⟩;clear f;refine tg [9] ?_ (bS.g (v:=.string q) (hy:=az ⟨by kernel_rfl,aA ⟨U,λW k=>by go_simp;rw[m _ _ k.2];rfl⟩⟩) (h:=.nil));refine gr 3 λK a=>?_;go_simp;go_at_call 95;apply(p _).mono;rintro e b ⟨rfl,b1⟩;refine a _ _ ⟨hS.1.trans<|b1.mono hS.1.size,bT b1 j⟩ λd=>?_;clear a K hS;apply tg [4,10];refine gz λK a=>?_;go_simp;apply a _ _;clear a K;refine gl ?_;go_wp2;go_roundw;case rel=>exact⟨i+1,Y,by rw[o],by go_num,c.trans<|d.1.mono c.size⟩
   case measure=>simp[dw];omega
  have t:¬(i:Int)<(N:Int):=Y;have e:i=N:=Y;subst e;go_wp2;go_ret;exact⟨U,c⟩
def bz.box{u u' g cb xb f c c' L m}(T:bz u g cb xb f c L m)(hS:c'.S=c.S)(o:c'.W=c.W)(l:u'.heap[cb]? =Z (au (uQ g xb c' m) 40 (0,0)))(a:∀b,b≠cb->u'.heap[b]? =u.heap[b]?):bz u' g cb xb f c' L m:=by
 have ne:∀{b:Nat} {x:aF aB} {V:aY},u.heap[b]? =Z (au x V (0,0))->V≠40->u'.heap[b]? =Z (au x V (0,0)):=λh D=>(a _<|mC h T.cr D).trans h;have B:∀{S k n:Nat} {v:aB} {C:av aB},u.ownsRow 0 S k v n C->S≠40->u'.ownsRow 0 S k v n C:=λh hS=>eF h λb t=>by obtain⟨x,A⟩:=yW h t;exact(ne A hS).trans A.symm
 refine T.move (λb t E=>a b λe=>E (e▸T.own.1)) ?_ l (by rw[hS];exact B T.gV aM) (by rw[o];exact B T.jW aM) (λi p s w d=>?_) (λj q r z hr=>?_) T.nd T.own.2;have:=(bf.1 l).1;refine xW λG=>?_;have e:=a u'.heap.size Y;grind;rw[hS]at d;exact⟨ne (T.sl i p s w d).1 aM,(T.sl i p s w d).2⟩;rw[o]at hr;exact⟨ne (T.ws j q r z hr).1 aM,(T.ws j q r z hr).2⟩
structure Wi.Good(g:Cf)(r:Wi):Prop where
 kd:0<=r.kd/\r.kd<=4
 fl:r.fl=0\/r.fl=1/\(r.kd=1\/r.kd=3\/r.kd=4)
 of:0<=r.of/\r.of %4=0/\r.ln %4=0/\r.of+r.ln<=g.sz/\r.ln<=g.mx
 ln:if r.kd=2 then r.of=0/\r.ln=0 else 4<=r.ln
 dt:r.dt=if r.kd=1 then qx r.ck (r.ln / 4).toNat else⟨#[]⟩
 er:r.er=0/\r.tx=⟨#[]⟩/\r.bk= -1
abbrev wi0(u ck:Nat)(kd of ln now:Int):Wi:=⟨u,ck,kd,0,of,ln,⟨#[]⟩,now,-1,0,⟨#[]⟩⟩
def GY{g}{u ck:Nat}{kd fl of ln now dt}(h:(0<=kd/\kd<=4)/\(0<=of/\of %4=0)/\(4<=ln/\ln %4=0/\of+ln<=g.sz/\ln<=g.mx))(a:¬kd=2)(hf:fl=0\/fl=1/\(kd=1\/kd=3\/kd=4))(hd:dt=if kd=1 then qx ck (ln / 4).toNat else⟨#[]⟩):Wi.Good g ⟨u,ck,kd,fl,of,ln,dt,now,-1,0,⟨#[]⟩⟩:=⟨h.1,hf,⟨h.2.1.1,h.2.1.2,h.2.2.2.1,h.2.2.2.2.1,h.2.2.2.2.2⟩,by show if kd=2 then _ else _;rw[aI a];exact h.2.2.1,hd,U,U,U⟩
structure uP(w:aq)(c u ck:Nat)(now:Int)(g:Cf)(a:Nat)(r:Wi)(w':aq):Prop where
 blk:w'.heap[a]? =Z (au (mI r) 53 (0,0))
 new:w.heap.size<=a
 old:∀b,b<w.heap.size->w'.heap[b]? =w.heap[b]?
 raw:∃kd of ln,r=wi0 u ck kd of ln now/\(0<=kd/\kd<=4)/\(0<=of/\of %4=0)/\(4<=ln/\ln %4=0/\of+ln<=g.sz/\ln<=g.mx)
def uP.fin{w w1 wc w':aq}{g cb xb u ck wb now f c L m}{r r':Wi}{e:Ending}(i:e=aG (jp wb))(h:uP w1 cb u ck now g wb r wc)(T:bz w1 g cb xb f c L m/\w1.heap.size=w.heap.size)(l:r'.Good g)(he:r'.u=u/\r'.ck=ck/\r'.at_=now)(j:w'.heap[wb]? =Z (au (mI r') 53 (0,0)))(k:∀b,b≠wb->b<wc.heap.size->w'.heap[b]? =wc.heap[b]?):∃a r',e=aG (jp a)/\r'.Good g/\(r'.u=u/\r'.ck=ck/\r'.at_=now)/\w.heap.size<=a/\w'.heap[a]? =Z (au (mI r') 53 (0,0))/\bz w' g cb xb f c L m:=by have n:=h.new;refine⟨wb,r',i,l,he,by have:=T.2;omega,j,T.1.old λb d=>(k b Y ?_).trans (h.old b d)⟩;have:=h.old b d;grind
abbrev WiB(a:Nat)(r:Wi)(B W:aq):Prop:=W.heap[a]? =Z (au (mI r) 53 (0,0))/\aK B W
def aka(d xb:Nat)(g:Cf)(f:Fx)(c:Cw)(L:cZ)(m:Cm)(w:aq)(h:bz w g d xb f c L m)(u:Nat)(s z:Int)(hy:dy s)(hz:dy z)(hI:g.Is)(uW:c.ck<65535):
  Calls prog 57 #[jp d,I u,I s,I z] w λe w'=>∃l r,e=aG (jp l)/\r.Good g/\(r.u=u/\r.ck=c.ck+1/\r.at_=c.now)/\w.heap.size<=l/\w'.heap[l]? =Z (au (mI r) 53 (0,0))/\bz w' g d xb f {c with ck:=c.ck+1} L m:=by
 have q0:=aJ w d 0 (I g.sz) h.cr;have q3:=aJ w d 3 (I g.mx) h.cr;have bV:=aJ w d 12 (I c.now) h.cr;have bW:=aJ w d 14 (I c.ck) h.cr;have f14:=bp h.cr 14;have cD:=hI.sz;have cC:=hI.mx;obtain⟨n,hn⟩:∃n:Int,g.sz=4*n:=⟨g.sz / 4,Y⟩;obtain⟨C,bH⟩:∃n:Int,g.mx=4*n:=⟨g.mx / 4,Y⟩;have d0:g.sz.tdiv 4=n:=by rw[hn];exact l8 _ aM
 have d3:g.mx.tdiv 4=C:=by rw[bH];exact l8 _ aM
 have e0:g.sz / 4=n:=Y;have e3:g.mx / 4=C:=Y;have D:cJ.wrap n=n:=dI Y Y;have w3:cJ.wrap C=C:=dI Y Y;have HP:Hid (∀W,eZ 21 #[I z,I n] W<|I<|eX z n):=λW=>Ed z n W hz Y Y;obtain⟨j,aW⟩:∃a,a=eX z n:=⟨_,U⟩;have bB:=AX z (n:=n) Y;rw[<-aW]at HP bB;clear aW;have cE:cJ.wrap (n-j)=n-j:=dI Y Y;have bk:(w.setCell (F d 14)<|I<|c.ck+1).heap[d]? =Z (au (uQ g xb {c with ck:=c.ck+1} m) 40 (0,0)):=bG h.cr 14 _;have N:bz (w.setCell (F d 14)<|I<|c.ck+1) g d xb f {c with ck:=c.ck+1} L m:=h.box U U bk λb p=>bC p;have bl:(w.setCell (F d 14)<|I<|c.ck+1).heap.size=w.heap.size:=ay;have G:Hid (bz (w.setCell (F d 14)<|I<|c.ck+1) g d xb f {c with ck:=c.ck+1} L m/\(w.setCell (F d 14)<|I<|c.ck+1).heap.size=w.heap.size):=⟨N,bl⟩;have bt:=aJ (w.setCell (F d 14)<|I<|c.ck+1) d 12 (I c.now) N.cr;have bu:=aJ (w.setCell (F d 14)<|I<|c.ck+1) d 14 (I<|c.ck+1) N.cr;have cK:cJ.wrap ((c.ck:Int)+1)=c.ck+1:=dI Y Y;clear h N bl bk;obtain⟨E,bQ⟩:∃E,z.tdiv 64=E:=⟨_,U⟩
 have aQ:dy E:=by
  unfold dy at hz⊢;rw[<-bQ];by_cases bL:0<=z;rw[EX bL];omega;have e:z.tdiv 64= -((-z) / 64):=by rw[<-EX (a:=-z) Y,Int.neg_tdiv,Int.neg_neg]
  rw[e];omega
 have cN:cJ.wrap E=E:=dI aQ.1 aQ.2;have H5:Hid (∀W,eZ 21 #[I s,I 5] W<|I<|eX s 5):=λW=>Ed s 5 W hy aM aM;have bD:=AX s (n:=5) aM;obtain⟨kd,UX⟩:∃a,a=eX s 5:=⟨_,U⟩;rw[<-UX]at H5 bD;clear UX
 obtain⟨t,cB,Dx⟩:∃t,(1<=t/\t<=n-j/\t<=C)/\(C<n-j/\t=C\/¬C<n-j/\t=n-j):=by by_cases O:C<n-j;exact⟨C,Y,aA ⟨O,U⟩⟩;exact⟨n-j,Y,az ⟨O,U⟩⟩
 have HM:Hid (∀W,eZ 21 #[I E,I t] W<|I<|eX E t):=λW=>Ed E t W aQ Y Y;have MV:=AX E (n:=t) Y;obtain⟨lp,bh⟩:∃a,a=eX E t:=⟨_,U⟩;rw[<-bh]at HM MV;clear bh;have Vn:cJ.wrap (4*j)=4*j:=dI Y Y;have bO:cJ.wrap (1+lp)=1+lp:=dI Y Y;have bP:cJ.wrap (4*(1+lp))=4*(1+lp):=dI Y Y
 have J:Hid ((0<=kd/\kd<=4)/\(0<=4*j/\4*j %4=0)/\(4<=4*(1+lp)/\4*(1+lp)%4=0/\4*j+4*(1+lp)<=g.sz/\4*(1+lp)<=g.mx)):=by show(_/\_)/\_;omega
 go_enter func57,ntmps57;rcases Dx with⟨O,aH⟩|⟨O,aH⟩
 all_goals go_upto_region 7 with(go_at_call 21;refine(HP.out _).mono ?_;rintro e D ⟨rfl,h0⟩;subst D)
 all_goals rw[<-aH]
 all_goals clear aH O HP
 all_goals
  go_cut [12] (λv w'=>∃l,v=jp l/\uP (w.setCell (F d 14)<|I<|c.ck+1) d u (c.ck+1) c.now g l (wi0 u (c.ck+1) kd (4*j) (4*(1+lp)) c.now) w')
  case first=>refine gY (S:=λW=>W.cell? (F d 12)=Z (I c.now)/\W.cell? (F d 14)=Z (I<|c.ck+1)) 20 ⟨bt,bu⟩ λhS=>?_;apply tg [0,1,2,3,4,5,7,8];apply tg [9,10,11,15,16,17,18];refine gr 6 λK o=>?_;go_simp;go_at_call 21;refine(H5.out _).mono ?_;rintro e D ⟨rfl,h0⟩;subst D;refine o.out _ _ hS λB=>?_;clear o K B;refine gr 12 λK o=>?_;go_simp;go_at_call 21;refine(HM.out _).mono ?_;rintro e D ⟨rfl,h0⟩;subst D;refine o.out _ _ hS λB=>?_;clear o K B;apply tg [13,14,19];refine gz λK o=>?_;go_simp;refine o.out _ _ ?_;clear o K;apply tg [21];refine gl ?_;go_wp2_with fail;go_meet;case rel=>exact⟨_,U,new1 G.out.2.symm,xV G.out.2,λb p=>((Below.refl _<|w.setCell (F d 14)<|I<|c.ck+1).alloc (aR _) _).block b p,⟨_,_,_,U,J.out⟩⟩
  case rest=>
   obtain⟨l,rfl,q⟩:=hcut;have ah:Hid (∀W,eZ 21 #[I s,I 20] W<|I<|eX s 20):=λW=>Ed s 20 W hy aM aM;have aL:=AX s (n:=20) aM;obtain⟨k,hk⟩:∃a,a=eX s 20:=⟨_,U⟩;rw[<-hk]at ah aL;clear hk;have bE:k.tdiv 5=k / 5:=EX aL.1;obtain⟨Q,bg⟩:∃a,a=k / 5:=⟨_,U⟩;rw[<-bg]at bE;have cL:cJ.wrap Q=Q:=dI Y Y;have b1:=aJ wc l 1 (I (c.ck+1:Nat)) q.blk;have b2:=aJ wc l 2 (I kd) q.blk;have b3:=aJ wc l 3 (I 0) q.blk;have b4:=aJ wc l 4 (I<|4*j) q.blk;have b5:=aJ wc l 5 (I<|4*(1+lp)) q.blk;have b6:=aJ wc l 6 (.string ⟨#[]⟩) q.blk;have g3:=bp q.blk 3;have g4:=bp q.blk 4;have g5:=bp q.blk 5;have g6:=bp q.blk 6;have A:Hid (uP (w.setCell (F d 14)<|I<|c.ck+1) d u (c.ck+1) c.now g l (wi0 u (c.ck+1) kd (4*j) (4*(1+lp)) c.now) wc):=q;clear q bg aL bt bu Vn bO bP HM H5 q0 q3 bV bW f14;have aT:Hid (∀W,bN 94 #[I<|(c.ck:Int)+1,I<|4*(1+lp)] W<|.string<|qx (c.ck+1:Nat) (4*(1+lp) / 4).toNat):=λW=>akB ((c.ck+1:Nat):Int) _ W Y Y;generalize bn:qx ((c.ck+1:Nat):Int) (4*(1+lp) / 4).toNat=SW at aT;have aS:Hid (SW=qx ((c.ck+1:Nat):Int) (4*(1+lp) / 4).toNat):=bn.symm;clear bn;by_cases e1:kd=1
   ·subst e1;have H:Hid (if Q=0 then(wc.setCell (F l 3)<|I 1).heap[l]? =Z (au (mI ⟨u,c.ck+1,1,1,4*j,4*(1+lp),⟨#[]⟩,c.now,-1,0,⟨#[]⟩⟩) 53 (0,0))else wc.heap[l]? =Z (au (mI ⟨u,c.ck+1,1,0,4*j,4*(1+lp),⟨#[]⟩,c.now,-1,0,⟨#[]⟩⟩) 53 (0,0))):=by show ite _ _ _;split;exact bG A.out.blk 3 _;exact A.out.blk
    by_cases P:Q=0;all_goals
     replace H:=H.out
     first|rw[aO P]at H|rw[aI P]at H
     try subst P
     have an:Hid _:=H;have x1:=aD an.out (i:=1) U;have x5:=aD an.out (i:=5) U;clear H
     go_upto_region 15 with(go_at_call 21;refine(ah.out _).mono ?_;rintro e D ⟨rfl,h0⟩;subst D)
     refine gY (S:=WiB l _ _) 12 ⟨an.out,(Below.refl _ _).drew⟩ λhS=>?_;apply tg [0,1,2,3];refine tg [4] ?_ (bS.g (v:=I<|(c.ck:Int)+1) (hy:=az ⟨by kernel_rfl,aA ⟨U,λW hW=>by have x:=aD hW.1 (i:=1) U;go_simp⟩⟩) (h:=.nil));apply tg [5,6,7];refine tg [8] ?_ (bS.g (v:=I<|4*(1+lp)) (hy:=az ⟨by kernel_rfl,aA ⟨U,λW hW=>by have x:=aD hW.1 (i:=5) U;go_simp⟩⟩) (h:=.nil));refine gr 9 λK o=>?_;go_simp;go_at_call 94;refine(aT.out _).mono ?_;rintro e w1 ⟨rfl,oY⟩;refine o.out _ _ ⟨bT oY hS.1,hS.2.trans<|oY.mono hS.2.size⟩ λB=>?_;clear o K hS;apply tg [10,11];have y6:=aJ w1 l 6 (.string ⟨#[]⟩) B.1;have z6:=bp B.1 6;refine gz λK o=>?_;go_simp;refine o.out _ _ ?_;clear o K;refine gl ?_;go_wp2;go_ret
     first
     |(obtain⟨R,X,T,V⟩:=uP.fin (e:=aG<|jp l) (r':=⟨u,c.ck+1,1,0,4*j,4*(1+lp),SW,c.now,-1,0,⟨#[]⟩⟩) U A.out G.out (GY J.out aM (aA U) aS.out) ⟨U,U,U⟩ (bG B.1 6 _) λb p hl=>(bC p).trans (B.2.block b hl)
       first|exact⟨R,T,X,V⟩|exact⟨R,X,T,V⟩)
     |(obtain⟨R,X,T,V⟩:=uP.fin (e:=aG<|jp l) (r':=⟨u,c.ck+1,1,1,4*j,4*(1+lp),SW,c.now,-1,0,⟨#[]⟩⟩) U A.out G.out (GY J.out aM (az ⟨U,aA U⟩) aS.out) ⟨U,U,U⟩ (bG B.1 6 _) λb p hl=>(bC p).trans ((B.2.block b (by simpa using hl)).trans<|bC p)
       first|exact⟨R,T,X,V⟩|exact⟨R,X,T,V⟩)
   have HK:kd=0\/kd=2\/kd=3\/kd=4:=by have:=J.out.1;omega
   by_cases P:Q=0<;>(try subst P)<;>rcases HK with rfl|rfl|rfl|rfl
   all_goals
    go_wp2_with (go_at_call 21;refine(ah.out _).mono ?_;rintro e D ⟨rfl,h0⟩;subst D);go_ret
    first
    |exact uP.fin rfl A.out G.out (GY J.out aM (aA rfl) rfl) ⟨rfl,rfl,rfl⟩ A.out.blk λb _ _=>U
    |exact uP.fin (r':=wi0 u (c.ck+1) 2 0 0 c.now) rfl A.out G.out (by have N:=hI.sz;have h2:=hI.mx;refine⟨?_,aA U,?_,⟨U,U⟩,U,U,U,U⟩;show(0:Int)<=2/\(2:Int)<=4;decide;show(0:Int)<=0/\(0:Int)%4=0/\(0:Int)%4=0/\(0:Int)+0<=g.sz/\(0:Int)<=g.mx;omega) ⟨U,U,U⟩ (bG (bG A.out.blk 4 _) 5 _) λb p _=>(bC p).trans (bC p)
    |exact uP.fin (r':=⟨u,c.ck+1,_,1,4*j,4*(1+lp),⟨#[]⟩,c.now,-1,0,⟨#[]⟩⟩) rfl A.out G.out (GY J.out aM (az ⟨rfl,az aM⟩) rfl) ⟨rfl,rfl,rfl⟩ (bG A.out.blk 3 _) λb p _=>bC p
def acI:(prog.info? 54).map (λi=>(i.zero,i.size,i.bytes))=Z (Z<|.pointer aj,1,8):=aW
def Wi.dV(r:Wi):ByteArray:=⟨#[81]⟩++zi r.kd r.fl++⟨(cu r.ck).toArray⟩++⟨(cu r.of).toArray⟩++⟨(cu r.ln).toArray⟩++r.dt
section
variable {u u':aq} {g:Cf} {cb xb:Nat} {f f':Fx} {c:Cw} {L L':cZ} {m:Cm}
def bz.goK(T:bz u g cb xb f c L m)(h:aE u' f' xb L')(t:bE u L u' L'):∃L',bz u' g cb xb f' c L' m/\∀b,b<u.heap.size->L.own b=0->u'.heap[b]? =u.heap[b]? /\L'.own b=0:=by let⟨d,v,t2,w⟩:=h.norm t;have keep:∀b,b<u.heap.size->L.own b=0->u'.heap[b]? =u.heap[b]? /\d.own b=0:=λb a h0=>⟨t.cy.block b a λx=>x h0,(t2.own b a).trans h0⟩;have blk:∀{b:Nat} {o:Obj},u.heap[b]? =Z o->L.own b=0->u'.heap[b]? =Z o/\d.own b=0:=λh h0=>have k:=keep _ (bf.1 h).1 h0;⟨k.1.trans h,k.2⟩;exact⟨d,⟨v,(blk T.cr T.own.1).1,eF T.gV λb a=>(keep b (jJ T.gV b a)<|T.own.2.1 b a).1,eF T.jW λb a=>(keep b (jJ T.jW b a)<|T.own.2.2 b a).1,λi p s e n=>blk (T.sl i p s e n).1 (T.sl i p s e n).2,λj q r l hr=>blk (T.ws j q r l hr).1 (T.ws j q r l hr).2,T.nd,⟨(blk T.cr T.own.1).2,λb a=>(keep b (jJ T.gV b a)<|T.own.2.1 b a).2,λb a=>(keep b (jJ T.jW b a)<|T.own.2.2 b a).2⟩,w⟩,keep⟩
def bz.K9{w3 gb cap wb t2 r aqi}(T:bz u g cb xb f c L m)(hr:u.heap[wb]? =Z (au (mI r) 53 (0,0)))(X:L.own wb=0)(z:wb∉m.qs)(af:w3.ownsRow 0 54 1 (.slice (Z<|F gb 0) (c.W.length+1) cap) (c.W.length+1) (pz m.qs++[jp wb]))(E:(u.alloc<|au aqi t2).grownBy w3 m.wv.ownBlock)(C:m.wv.ownBlock=Z gb\/gb=u.heap.size+1):
  w3.heap[cb]? =Z (au (uQ g xb c m) 40 (0,0))/\bz (w3.setCell (F cb 11)<|.slice (Z<|F gb 0) (c.W.length+1) cap) g cb xb f {c with W:=c.W++[r]} L {m with wv:=.slice (Z<|F gb 0) (c.W.length+1) cap,qs:=m.qs++[wb]}:=by
 have lt:∀{b:Nat} {o:Obj},u.heap[b]? =Z o->b<u.heap.size:=λh=>(bf.1 h).1;have V:cb<u.heap.size:=lt T.cr;have ah:=E.size;simp at ah;have w:∀x,x<u.heap.size->Z x≠m.wv.ownBlock->w3.heap[x]? =u.heap[x]? :=λx d z=>(E.block x bV z).trans (((Below.refl _ u).alloc (aR _) _).block x d)
 have A:∀{x:Nat} {c:aF aB} {t:Nat},u.heap[x]? =Z (au c t (0,0))->t≠54->Z x≠m.wv.ownBlock:=λh v e=>by let⟨c',D⟩:=yW T.jW e.symm;rw[h]at D;cases D;exact v U
 have B:=(w cb V<|A T.cr aM).trans T.cr
 have R:gb≠cb:=λe=>by subst e;rcases C with h|h;exact A T.cr aM h.symm;omega
 have k:∀{b:Nat} {x:aF aB} {t:Nat},u.heap[b]? =Z (au x t (0,0))->t≠54->t≠40->(w3.setCell (F cb 11)<|.slice (Z<|F gb 0) (c.W.length+1) cap).heap[b]? =Z (au x t (0,0)):=λh v O=>(bC<|mC h T.cr O).trans ((w _ (lt h)<|A h v).trans h);refine⟨B,T.move (λb n J=>(bC λe=>J (by rw[e];exact T.own.1)).trans (w b n λe=>J (T.own.2.2 b e.symm))) bV (bG B 11 _) (eF T.gV λb n=>?_) ?_ (λi p s K N=>⟨k (T.sl i p s K N).1 aM aM,(T.sl i p s K N).2⟩) (λj q x l d=>?_) ⟨T.nd.1,?_⟩ ⟨T.own.2.1,λb n=>?_⟩⟩
 let⟨x,d⟩:=yW T.gV n
 exact(k d aM aM).trans d.symm;show KO _ 0 _ 1 _ (c.W++[r]).length (pz<|m.qs++[wb]);rw[fQ];refine eF (by simpa[pz]using af) λx d=>bC ?_;have e:gb=x:=by simpa[lW]using d
 exact e▸R;have l:(m.qs++[wb])[j]? =Z q:=l;have d:(c.W++[r])[j]? =Z x:=d;have S:=T.Od;rw[zH]at l d
 by_cases G:j<m.qs.length
 rw[aO G]at l;rw[aO Y]at d;exact⟨k (T.ws j q x l d).1 aM aM,(T.ws j q x l d).2⟩;rw[aI G]at l;rw[aI Y]at d
 have H:j-m.qs.length=0:=by have:=(bY.1 l).1;simp at this;omega
 rw[H]at l;rw[<-S,H]at d;cases l;cases d;exact⟨k hr aM aM,X⟩;show(m.qs++[wb]).Nodup;refine Ca.2 ⟨T.nd.2,ay,λa P b n e=>?_⟩;rw[iz]at n;subst n e;exact z P;have e:gb=b:=by simpa[lW]using n
 subst e;rcases C with h|h;exact T.own.2.2 _ h;exact T.no _ Y
end
structure CI(g:Cf)(f:Fx)(c:Cw)(i a:Nat)(k:Ck)(b:Bool)(f':Fx)(d:Cw)(r:Wi):Prop where
 good:r.Good g
 is:r.u=i/\r.ck=c.ck+1/\r.at_=c.now
 out:((f.send a k r.dV).2=6/\b=M/\f'=(f.send a k r.dV).1/\d={c with ck:=c.ck+1})\/((f.send a k r.dV).2≠6/\b=((f.send a k r.dV).2==0)/\f'=(f.send a k r.dV).1/\d={c with ck:=c.ck+1,W:=c.W++[r]})
def I9(g:Cf)(cb xb:Nat)(f:Fx)(c:Cw)(i d:Nat)(k:Ck)(ps:av Nat)(e:Ending)(w':aq):Prop:=∃b f' a r,e=aG (.bool b)/\CI g f c i d k b f' a r/\uH w' g cb xb f' a ps
def RZ(cb xb g f)(c:Cw)(L)(m:Cm)(w)(h:bz w g cb xb f c L m)(p aqi z)(b:60000<=c.ck):
  eZ 24 #[jp cb,jp p,I aqi,I z] w (.bool M):=by
 have d:=aJ w cb 14 (I c.ck) h.cr;have a:(60000:Int)<=c.ck:=Y;go_enter func24,ntmps24;go_wp2;go_ret;exact⟨U,U⟩
def RY(cb xb g f)(c:Cw)(L)(m:Cm)(w)(h:bz w g cb xb f c L m)(i p t:Nat)(s:Sl)(k aqi z)(hy:dy aqi)(hz:dy z)(hI:g.Is)(uW:c.ck<60000)(hs:c.S[i]? =Z s)(hp:m.ps[i]? =Z p)(hu:f.Is i t k)(hf:f.K.length<=65535)(hi:k.aN.size<=1024)(hl:c.W.length<=1099511627776):
  Calls prog 24 #[jp cb,jp p,I aqi,I z] w λe v=>I9 g cb xb f c i t k m.ps e v:=by
 let⟨iP,bH,oh,bL,oZ⟩:=nG acI
 have cu:=aJ w cb 14 (I c.ck) h.cr;have bV:¬(60000:Int)<=c.ck:=Y;have bW:¬(c.ck:Int)≥60000:=Y;have bg:=h.sl i p s hp hs;have p0:=aJ w p 0 (I i) bg.1
 have HW:Hid (Calls prog 57 #[jp cb,I i,I aqi,I z] w λe v=>∃d r,e=aG (jp d)/\(r.Good g/\(r.u=i/\r.ck=c.ck+1/\r.at_=c.now))/\(v.heap[d]? =Z (au (mI r) 53 (0,0))/\L.own d=0/\d∉m.qs)/\bz v g cb xb f {c with ck:=c.ck+1} L m):=by apply(aka cb xb g f c L m w h i aqi z hy hz hI Y).mono;rintro e v ⟨d,r,rfl,h1,h2,O,P,q⟩;refine⟨d,r,U,⟨h1,h2⟩,⟨P,h.no d O,λhm=>?_⟩,q⟩;let⟨j,hj⟩:=pJ.1 hm;have bX:=(bY.1 hj).1;have:=h.Od;obtain⟨x,hx⟩:∃x,c.W[j]? =Z x:=⟨_,dj Y⟩;have:=(bf.1 (h.ws j d x hj hx).1).1;omega
 have HM:Hid (∀r:Wi,r.Good g->r.ck=c.ck+1->∀d W,W.heap[d]? =Z (au (mI r) 53 (0,0))->bN 58 #[jp d] W (.string r.dV)):=λr E hk d W X=>by
  have cm:=hI.sz;have cg:=hI.mx;have o:=E.of;have n:=E.ln;have MV:0<=r.ln:=by by_cases e:r.kd=2;rw[aO e]at n;omega;rw[aI e]at n;omega
  refine akk d r.u r.ck r.kd r.fl r.of r.ln r.dt r.at_ r.bk r.er r.tx W X Y (by have:=E.kd;omega) (by have:=E.fl;omega) Y Y ?_;rw[E.dt];split;rw[IS];omega;show(0:Nat)<=_;omega
 have HS:Hid (∀x W L,aE W f xb L->Calls prog 37 #[jp xb,I i,.string x] W λe v=>e=aG (I (f.send t k x).2)/\∃L',aE v (f.send t k x).1 xb L'/\bE W L v L'):=λx W L X=>Uq W f xb L X hf i x t k hu hi;have J:Hid (m.ps[i]? =Z p/\c.S[i]? =Z s):=⟨hp,hs⟩;have Ew:=trivial;clear h bg hu hi hy hz hs hp;go_enter func24,ntmps24
 go_upto_region 4 with(go_at_call 57;apply HW.mono;rintro e w1 ⟨d,r,rfl,Hg,bl,Q⟩)
 have B:=aX Hg;have H:=aX bl;have H1:=aX Q;clear Hg bl;have x9:=aJ w1 cb 9 (jp xb) Q.cr;have x0:w1.cell? (F p 0)=Z (I i):=aD (Q.sl i p s J.1 J.2).1 U;clear Q;refine gY (S:=λW=>W.cell? (F cb 9)=Z (jp xb)/\W.cell? (F p 0)=Z (I i)) 10 ⟨x9,x0⟩ λhS=>?_;apply tg [0,1,2,3,4,5,6,7];apply tg [8];refine gr 9 λK D=>?_;go_simp;go_at_call 58;apply(HM r B.1 B.2.2.1 d w1.drew H.1).mono;rintro e w2 ⟨rfl,lD⟩;have A:Hid (bz w2 g cb xb f {c with ck:=c.ck+1} L m/\w2.heap[d]? =Z (au (mI r) 53 (0,0))):=⟨H1.old λb hb=>lD.block b hb,bT lD H.1⟩;refine D _ _ ⟨aD A.1.cr U,aD (A.1.sl i p s J.1 J.2).1 U⟩ λyG=>?_;clear D K hS lD;refine gz λK D=>?_;go_simp;go_at_call 37;apply(HS _ w2 L A.1.fx).mono;rintro e l ⟨rfl,L',O,P⟩
 let⟨L3,q,C⟩:=A.1.goK O P
 have V:=C d (bf.1 A.2).1 H.2.1
 let⟨a0,Sw,aS⟩:=gP q.jW
 have N:=aX aS;have G:Hid (bz l g cb xb (f.send t k r.dV).1 {c with ck:=c.ck+1} L3 m/\l.heap[d]? =Z (au (mI r) 53 (0,0))/\L3.own d=0):=⟨q,V.1.trans A.2,V.2⟩
 have cv:l.cell? (F cb 11)=Z (.slice a0 c.W.length Sw):=by rw[<-N];exact aD q.cr U
 have b8:cb<l.heap.size:=(bf.1 q.cr).1;have cj:¬cb=l.heap.size:=Y
 have HR:Hid ((l.alloc<|au #[jp d] 54).ownsRow 0 54 1 (.slice a0 c.W.length Sw) c.W.length<|pz m.qs):=by show KO _ _ _ _ _ _ _;rw[<-N];exact q.jW.alloc _
 clear O P q C V aS yG;obtain⟨er,af⟩:∃a,a=(f.send t k r.dV).2:=⟨_,U⟩;rw[<-af];have R:=aX af;clear af;apply D _ _;clear D K;apply tg [11];refine gl ?_
 by_cases C:er=6
 ·subst C;go_wp2;go_ret;exact⟨_,_,_,r,U,⟨B.1,B.2,aA ⟨R.symm,U,U,U⟩⟩,_,_,G.1,qD _⟩
 have bU:(er==6)=aa:=by simpa using C
 go_wp2_with (at_builtin;have _t:=Ew;refine Re _ n7 _ _ 38 n7 0 54 iP _ 1 8 underlying38 bH oh bL oZ n7 Y _ c.W.length (pz m.qs) n7 HR ⟨l.heap.size,0,aj⟩ 1 1 [jp d] n7 n7 (wu<|heap_alloc_new l _) ack Y B5 Y ay (l.heap.size+1) ay ?_;intro g0 cap w4 Ve US UK b9;clear Ew;let⟨T,E4⟩:=bz.K9 (r:=r) G.1 G.2.1 G.2.2 H.2.2 Ve (by rw[N];exact US) (by rw[N];exact UK);have c4:=aJ w4 cb 11 m.wv T;have f4:=bp T 11;have bu:Hid (uH (w4.setCell (F cb 11)<|.slice (Z<|F g0 0) (c.W.length+1) cap) g cb xb (f.send t k r.dV).1 {c with ck:=c.ck+1,W:=c.W++[r]} m.ps):=⟨_,_,E4,qD _⟩;clear T E4 Ve US UK);go_ret;exact⟨_,_,_,r,U,⟨B.1,B.2,az ⟨by rw[<-R];exact C,by rw[<-R],U,U⟩⟩,bu⟩
def bz.spot{u g cb xb f c L m}(T:bz u g cb xb f c L m){i x}(b:c.W[i]? =Z x):∃a cap q,m.wv=.slice (Z<|F a 0) c.W.length cap/\m.qs[i]? =Z q/\u.cell? (F a i)=Z (jp q)/\u.heap[q]? =Z (au (mI x) 53 (0,0)):=by let⟨q,d,h,_⟩:=T.Jy b;let⟨a,cap,e,j⟩:=yV T.jW (Kw (cO _) (bY.1 b).1);exact⟨a,cap,q,e,d,j i (jp q) j4,h⟩
def akf(cb xb g f)(c:Cw)(L)(m:Cm)(w)(h:bz w g cb xb f c L m)(u k j:Nat)(r:Wi)(d:c.W[j]? =Z r)(hr:r.u=u/\r.ck=k)(hf:∀i x,c.W[i]? =Z x->x.u=u->x.ck=k->j<=i)(hl:c.W.length<=1099511627776):
  Calls prog 110 #[jp cb,I u,I k] w λe N=>∃q,m.qs[j]? =Z q/\e=aG (jp q)/\N=w:=by
 let⟨z,cap,q,ev,B,R,b⟩:=h.spot d
 have X:=(bY.1 d).1;have P:w.cell? (F cb 11)=Z (.slice (Z<|F z 0) c.W.length cap):=ev▸aD h.cr U;have E:=aX B
 have D:Hid (∀i,i<j->∃(x:Wi) (q:Nat),w.cell? (F z i)=Z (jp q)/\(w.cell? (F q 0)=Z (I (x.u:Nat))/\w.cell? (F q 1)=Z (I (x.ck:Nat)))/\¬(x.u=u/\x.ck=k)):=λi G=>by obtain⟨x,C⟩:∃x,c.W[i]? =Z x:=⟨_,dj Y⟩;let⟨T,Q,K,v,_,t,A⟩:=h.spot C;rw[ev]at v;cases v;exact⟨x,K,t,⟨aD A U,aD A U⟩,λe=>by have:=hf i x C e.1 e.2;omega⟩
 have O:w.cell? (F q 0)=Z (I u):=by rw[<-hr.1];exact aD b U
 have b1:w.cell? (F q 1)=Z (I k):=by rw[<-hr.2];exact aD b U
 clear h b B hf hr d ev;generalize c.W.length=n at*;go_enter func110,ntmps110;go_wp2
 go_loopw [7] (λs wr=>∃i:Nat,i<=j/\s=I i/\wr=w) (λs _=>n-(dw s).toNat)
 case atStart=>exact⟨0,cO _,U,U⟩
 case round=>
  obtain⟨i,G,rfl,rfl⟩:=hrel;have af:(i:Int)<(n:Int):=Y;have V:0<=(i:Int)/\(i:Int)<(n:Int):=Y;by_cases H:i<j
  ·let⟨x,p,t,⟨J,p1⟩,l⟩:=D i H;by_cases o:x.u=u
   ·have a:((x.u:Nat):Int)=(u:Int):=Y;have S:¬((x.ck:Nat):Int)=(k:Int):=λe=>l ⟨o,Y⟩;rw[a]at J;clear l o a;go_wp2;go_roundw;case rel=>exact⟨i+1,Y,by go_num,by first|rfl|trivial⟩
    case measure=>simp[dw];omega
   have a:¬((x.u:Nat):Int)=(u:Int):=Y;clear l o;go_wp2;go_roundw;case rel=>exact⟨i+1,Y,by go_num,by first|rfl|trivial⟩
   case measure=>simp[dw];omega
  have e:i=j:=Y;subst e;go_wp2;go_ret;exact⟨q,E,U,U⟩
abbrev Tk:=UInt8 ⊕ (Nat×UInt8×av UInt8)
def iW(W:av Wi)(j:Nat):Nat:=match W[j]? with|some r=>r.ck|none=>0
def iY(W:av Wi):Tk->av UInt8
 |.inl b=>[b]|.inr (j,e,t)=>82::e::(cu (iW W j)++t)
def Tk.no:Tk->aV Nat
 |.inl _=>aj|.inr (j,_)=>Z j
def mU(u:Nat)(W:av Wi):Tk->Prop
 |.inl b=>b=89\/b=71|.inr (j,e,t)=>∃r,W[j]? =Z r/\r.u=u/\r.bk<0/\(e=0\/e=5)/\t.length=if r.kd=0/\e=0 then r.ln.toNat else 0
abbrev Wi.had(r:Wi)(now:Int)(e:UInt8)(t:av UInt8):Wi:={r with bk:=now,er:=(e.toNat:Int),tx:=⟨t.toArray⟩}
def Tk.on(now:Int)(W:av Wi):Tk->av Wi
 |.inl _=>W|.inr (j,e,t)=>match W[j]? with|some r=>W.set j (r.had now e t)|none=>W
abbrev dS(now:Int)(W:av Wi)(ts:av Tk):av Wi:=ts.foldl (Tk.on now) W
structure mA(W:av Wi):Prop where
 dO:W.length<=1099511627776
 one:∀(j:Nat) r,W[j]? =Z r->r.ck<=65535/\0<=r.ln/\r.ln<=65535
 two:∀(j d:Nat) r a,W[j]? =Z r->W[d]? =Z a->r.u=a.u->r.ck=a.ck->j=d
def mA.set{W}(h:mA W){j r r'}(O:W[j]? =Z r)(e:r'.u=r.u/\r'.ck=r.ck/\r'.ln=r.ln):mA (W.set j r'):=by
 have key:∀(k:Nat) x,(W.set j r')[k]? =Z x->∃l,W[k]? =Z l/\x.u=l.u/\x.ck=l.ck/\x.ln=l.ln:=λk x o=>by grind
 refine⟨by rw[jB];exact h.dO,λk x o=>?_,λk z x C o A K N=>?_⟩;let⟨l,v,a,b,d⟩:=key k x o;have:=h.one k l v;rwa [b,d];let⟨l,v,a,b,d⟩:=key k x o;let⟨D,B,G,H,J⟩:=key z C A;exact h.two k z l D v B j4 j4
def U8{W j r r'}(d:W[j]? =Z r)(e:r'.ck=r.ck)(k):iW (W.set j r') k=iW W k:=by unfold iW;by_cases a:k=j;subst a;rwa [iy (bY.1 d).1,d];rw[gQ<|dB a]
def aau{W j r r'}(h:W[j]? =Z r)(e:r'.ck=r.ck)(ts:av Tk):ts.flatMap (iY<|W.set j r')=ts.flatMap (iY W):=by refine cG (λd=>ts.flatMap d)<|funext λt=>?_;rcases t with b|⟨k,a,t⟩;rfl;show 82::a::(cu (iW _ k)++t)=82::a::(cu (iW _ k)++t);rw[U8 h e]
def mU.set{u W j r t}(h:mU u W t)(d:t.no≠Z j):mU u (W.set j r) t:=by rcases t with b|⟨k,e,t⟩;exact h;let⟨x,l,a⟩:=h;exact⟨x,(gQ λe=>d C1).trans l,a⟩
structure mz(w:aq)(g:Cf)(cb xb:Nat)(f:Fx)(c:Cw)(L:cZ)(m:Cm)(i:Nat)(s:Sl)(E:av Wi)(wr:aq)(W:av Wi)(hd:ByteArray)(ts:av Tk):Prop where
 cr:bz wr g cb xb f {c with S:=c.S.set i {s with hd:=hd},W:=W} L m
 hd:hd.data.toList=ts.flatMap (iY W)
 ok:∀t∈ts,mU i W t
 nd:(ts.filterMap Tk.no).Nodup
 wo:mA W
 fin:dS c.now W ts=E
section
variable {w wr:aq} {g:Cf} {cb xb:Nat} {f:Fx} {c:Cw} {L:cZ} {m:Cm} {i p q j n:Nat} {s:Sl} {E W:av Wi} {hd:ByteArray} {b e:UInt8} {t:av UInt8} {ts:av Tk} {r:Wi}
def AB(s:ByteArray)(n):(s.extract n s.size).data.toList=s.data.toList.drop n:=by rw[rE,zz];simp[Qv];rw[qE];simp
def mz.drewN(h:mz w g cb xb f c L m i s E wr W hd ts)(k):mz w g cb xb f c L m i s E (wr.drewN k) W hd ts:=⟨h.cr.old λ_ _=>U,h.hd,h.ok,h.nd,h.wo,h.fin⟩
def mz.letter(h:mz w g cb xb f c L m i s E wr W hd (.inl b::ts))(k:m.ps[i]? =Z p)(o:i<c.S.length):mz w g cb xb f c L m i s E (wr.setCell (F p 2)<|.string<|hd.extract 1 hd.size) W (hd.extract 1 hd.size) ts:=by let⟨v,l,a,_⟩:=h.cr.Bg (i:=i) (s:={s with hd:=hd}) (iy o);rw[k]at l;cases l;have d:=h.cr.Iv (s:={s with hd:=hd.extract 1 hd.size}) k j4 (bG a 2 _) λb a=>bC a;rw[show({c with S:=c.S.set i {s with hd:=hd},W:=W}:Cw).S.set i {s with hd:=hd.extract 1 hd.size}=c.S.set i {s with hd:=hd.extract 1 hd.size} from pK ..]at d;refine⟨d,?_,λt u=>h.ok t (gC _ u),h.nd,h.wo,h.fin⟩;rw[AB,h.hd];rfl
def mz.afX(h:mz w g cb xb f c L m i s E wr W hd (.inr (j,e,t)::ts))(C:m.ps[i]? =Z p)(z:i<c.S.length)(d:W[j]? =Z r)(G:m.qs[j]? =Z q)(A:t.length+4=n):mz w g cb xb f c L m i s E ((((wr.setCell (F q 8)<|I c.now).setCell (F q 9)<|I e.toNat).setCell (F q 10)<|.string<|hd.extract 4 n).setCell (F p 2)<|.string<|hd.extract n hd.size) (W.set j<|r.had c.now e t) (hd.extract n hd.size) ts:=by
 let⟨P,D,a,_⟩:=h.cr.Bg (i:=i) (s:={s with hd:=hd}) (iy z);rw[C]at D;cases D;let⟨Q,H,u,_⟩:=h.cr.Jy d;rw[G]at H;cases H;have l:=mC a u aM;have k:hd.extract 4 n=⟨t.toArray⟩:=by
  have J:(hd.extract 4 n).data.toList=t:=by rw[rE,zz,h.hd];show(Qv (82::e::(cu (iW W j)++t)++ts.flatMap (iY W)) 4 n)=t;rw[<-A];simp[Qv,cu]
  have o:(hd.extract 4 n).data=t.toArray:=by rw[<-J]
  cases O:hd.extract 4 n;rw[O]at o;rw[<-o]
 have N:=h.cr.afv (r:=r.had c.now e t) G (bY.1 d).1 (u':=((wr.setCell (F q 8)<|I c.now).setCell (F q 9)<|I e.toNat).setCell (F q 10)<|.string<|hd.extract 4 n) (by rw[k];exact bG (bG (bG u 8 _) 9 _) 10 _) λb a=>(bC a).trans ((bC a).trans<|bC a);have v:=N.Iv (s:={s with hd:=hd.extract n hd.size}) C (by show i<(c.S.set i _).length;rw[jB];exact z) (bG (((bC l).trans<|(bC l).trans<|bC l).trans a) 2 _) λb a=>bC a;rw[show({c with S:=c.S.set i {s with hd:=hd},W:=W.set j<|r.had c.now e t}:Cw).S.set i {s with hd:=hd.extract n hd.size}=c.S.set i {s with hd:=hd.extract n hd.size} from pK ..]at v;have B:=vV.1 h.nd;refine⟨v,?_,λx k=>(h.ok x<|gC _ k).set λe=>B.1 (sX.2 ⟨x,k,e⟩),B.2,h.wo.set d ⟨U,U,U⟩,?_⟩;rw[AB,h.hd,aau (r':=r.had c.now e t) d U];show List.drop n (82::e::(cu (iW W j)++t)++ts.flatMap (iY W))=_;rw[<-A];simp[cu];have:=h.fin;rw[show dS c.now W (.inr (j,e,t)::ts)=dS c.now (Tk.on c.now W<|.inr (j,e,t)) ts from U]at this;rw[<-this];show dS _ (W.set j _) ts=dS _ (match W[j]? with|some r=>W.set j (r.had c.now e t)|none=>W) ts;rw[d]
end
def gU(S:av Sl):Nat:=(S.filter λs=>!s.aw).length
def VN{S:av Sl}{i s}(h:S[i]? =Z s):gU (S.take<|i+1)=gU (S.take i)+if s.aw then 0 else 1:=by unfold gU;rw[rQ,h,Option.toList_some,zF,fQ];cases a:s.aw<;>simp[List.filter,a]
def VM(S):gU S<=S.length:=Ko ..
def Za(cb xb g f)(c:Cw)(L)(m:Cm)(w)(h:bz w g cb xb f c L m)(K:c.S.length<=1099511627776):eZ 67 #[jp cb] w (I<|gU c.S):=by
 let⟨a,cap,l⟩:=gP h.gV;have C:w.cell? (F cb 10)=Z (.slice a c.S.length cap):=by rw[<-l];exact aD h.cr U
 have d:Hid (bz w g cb xb f c L m/\m.lv=.slice a c.S.length cap):=⟨h,l⟩;go_enter func67,ntmps67;go_wp2;go_loopw [3,4] (λnv k wr=>∃i:Nat,i<=c.S.length/\nv=I (gU<|c.S.take i)/\k=I i/\wr=w) (λ_ k _=>c.S.length-(dw k).toNat);case atStart=>exact⟨0,cO _,U,U,U⟩
 case round=>
  obtain⟨i,J,rfl,rfl,rfl⟩:=hrel;by_cases x:i<c.S.length
  ·have v:(i:Int)<(c.S.length:Int):=Y;have H:0<=(i:Int)/\(i:Int)<(c.S.length:Int):=Y;have j:=d.1.gV;rw[d.2]at j;let⟨E,B,e,o⟩:=yV j Y;cases e;obtain⟨s,r⟩:∃s,c.S[i]? =Z s:=⟨_,dj x⟩;let⟨p,z,n,_⟩:=d.1.Bg r;have D:=o i (jp p) j4;have cs:=aD n (i:=3) U;have q:=VN r;have t:=VM (c.S.take i);rw[vS]at t;have N:cJ.wrap ((gU (c.S.take i):Int)+1)=(gU (c.S.take i):Int)+1:=dI Y Y;generalize G:gU (c.S.take i)=A at*;clear n o z j;cases b:s.aw
   ·simp only[vh,b]at cs;go_wp2;go_roundw;case rel=>exact⟨i+1,Y,by rw[q,b];go_num,by go_num,by first|rfl|trivial⟩
    case measure=>simp[dw];omega
   simp only[vh,b]at cs;go_wp2;go_roundw;case rel=>exact⟨i+1,Y,by rw[q,b];rfl,by go_num,by first|rfl|trivial⟩
   case measure=>simp[dw];omega
  have v:¬(i:Int)<(c.S.length:Int):=Y;have e:i=c.S.length:=Y;subst e;rw[pM];go_wp2;go_ret;exact⟨U,U⟩
section
variable {u:aq} {g:Cf} {cb xb:Nat} {f:Fx} {c:Cw} {L:cZ} {m:Cm}
def bz.LC{w3 gb cap t2 s aqi}(T:bz u g cb xb f c L m)(X:w3.ownsRow 0 49 1 (.slice (Z<|F gb 0) (c.S.length+1) cap) (c.S.length+1) (pz m.ps++[jp u.heap.size]))(w:((u.alloc<|au (vh c.S.length s) 66).alloc<|au aqi t2).grownBy w3 m.lv.ownBlock)(C:m.lv.ownBlock=Z gb\/gb=u.heap.size+2):
  w3.heap[cb]? =Z (au (uQ g xb c m) 40 (0,0))/\bz (w3.setCell (F cb 10)<|.slice (Z<|F gb 0) (c.S.length+1) cap) g cb xb f {c with S:=c.S++[s]} L {m with lv:=.slice (Z<|F gb 0) (c.S.length+1) cap,ps:=m.ps++[u.heap.size]}:=by
 have lt:∀{b:Nat} {o:Obj},u.heap[b]? =Z o->b<u.heap.size:=λh=>(bf.1 h).1;have V:cb<u.heap.size:=lt T.cr;have af:=w.size;simp at af;have z:∀x,x<u.heap.size->Z x≠m.lv.ownBlock->w3.heap[x]? =u.heap[x]? :=λx d W=>(w.block x bV W).trans ((((Below.refl _ u).alloc (aR _) _).alloc ay _).block x d)
 have A:∀{x:Nat} {c:aF aB} {r:Nat},u.heap[x]? =Z (au c r (0,0))->r≠49->Z x≠m.lv.ownBlock:=λh v e=>by let⟨c',D⟩:=yW T.gV e.symm;rw[h]at D;cases D;exact v U
 have B:=(z cb V<|A T.cr aM).trans T.cr
 have P:gb≠cb:=λe=>by subst e;rcases C with h|h;exact A T.cr aM h.symm;omega
 have k:∀{b:Nat} {x:aF aB} {r:Nat},u.heap[b]? =Z (au x r (0,0))->r≠49->r≠40->(w3.setCell (F cb 10)<|.slice (Z<|F gb 0) (c.S.length+1) cap).heap[b]? =Z (au x r (0,0)):=λh v K=>(bC<|mC h T.cr K).trans ((z _ (lt h)<|A h v).trans h);refine⟨B,T.move (λb n G=>(bC λe=>G (by rw[e];exact T.own.1)).trans (z b n λe=>G (T.own.2.1 b e.symm))) bV (bG B 10 _) ?_ (eF T.jW λb n=>?_) (λj q x l d=>?_) (λi p s H J=>⟨k (T.ws i p s H J).1 aM aM,(T.ws i p s H J).2⟩) ⟨?_,T.nd.2⟩ ⟨λb n=>?_,T.own.2.2⟩⟩;show KO _ 0 _ 1 _ (c.S++[s]).length (pz<|m.ps++[u.heap.size]);rw[fQ];refine eF (by simpa[pz]using X) λx d=>bC ?_;have e:gb=x:=by simpa[lW]using d
 exact e▸P
 let⟨x,d⟩:=yW T.jW n
 exact(k d aM aM).trans d.symm;have l:(m.ps++[u.heap.size])[j]? =Z q:=l;have d:(c.S++[s])[j]? =Z x:=d;have R:=T.NQ;rw[zH]at l d
 by_cases t:j<m.ps.length
 rw[aO t]at l;rw[aO Y]at d;exact⟨k (T.sl j q x l d).1 aM aM,(T.sl j q x l d).2⟩;rw[aI t]at l;rw[aI Y]at d
 have E:j-m.ps.length=0:=by have:=(bY.1 l).1;simp at this;omega
 rw[E]at l;rw[<-R,E]at d;cases l;cases d;have Q:j=c.S.length:=Y;subst Q;refine⟨(bC Y).trans<|(w.block _ bV λe=>?_).trans<|gD<|new1 U,T.no _<|aR _⟩;have:=jJ T.gV _ e.symm;omega;show(m.ps++[u.heap.size]).Nodup;refine Ca.2 ⟨T.nd.1,ay,λa N b n e=>?_⟩;rw[iz]at n;subst n
 let⟨j,t⟩:=pJ.1 N
 have ak:=(bY.1 t).1;have:=T.NQ;obtain⟨x,d⟩:∃x,c.S[j]? =Z x:=⟨_,dj Y⟩;have:=lt (T.sl j a x t d).1;omega;have e:gb=b:=by simpa[lW]using n
 subst e;rcases C with h|h;exact T.own.2.1 _ h;exact T.no _ Y
end
def akd(cb xb g f)(c:Cw)(L)(m:Cm)(w)(T:bz w g cb xb f c L m)(x)(B:dy x)(hf:f.K.length<=65535)(s:f.stop=aa)(q:∀i:Nat,f.K[i]? ≠Z aj)(hl:c.S.length<=1099511627776)(z:(gU c.S:Int)=g.cl\/gU c.S<c.S.length):
  Calls prog 31 #[jp cb,I x] w λe C=>e=aG (.bool M)/\bz C g cb xb f c L m:=by
 have G:=aJ w cb 9 (jp xb) T.cr;have D:=aJ w cb 1 (I g.cl) T.cr
 let⟨t,u,p⟩:=gP T.gV
 have E:w.cell? (F cb 10)=Z (.slice t c.S.length u):=by rw[<-p];exact aD T.cr U
 have n:=aX (NN x 4 w B aM aM);have l:Hid (∀k,1<=k/\k<=4->eZ 36 #[jp xb,I k] w (.tuple #[I 0,I 3])):=λk H=>abw w f xb L T.fx hf s k (by simp[ia];omega) q;have j:=aX (Za cb xb g f c L m w T hl);have o:=aX T;generalize gU c.S=N at*;clear T q s p;go_enter func31,ntmps31
 by_cases b:(N:Int)=g.cl
 ·have v:((N:Int)==g.cl)=M:=by simpa using b
  go_wp2_with (first
   |(go_at_call 21;apply n.mono;rintro e a ⟨r,rfl,hr,h0⟩;subst a;have d:Hid (1<=1+r/\1+r<=4):=M5;have A:cJ.wrap (1+r)=1+r:=dI Y Y;clear hr)|(go_at_call 36;apply(l _ d).mono;rintro e a ⟨rfl,h0⟩;subst a)|(go_at_call 67;apply j.mono;rintro e a ⟨rfl,h0⟩;subst a))
  go_ret;exact⟨U,o⟩
 have v:((N:Int)==g.cl)=aa:=by simpa using b
 have J:(N:Int)<(c.S.length:Int):=by rcases z with h|h;exact absurd h b;omega
 go_wp2_with (first
  |(go_at_call 21;apply n.mono;rintro e a ⟨r,rfl,hr,h0⟩;subst a;have d:Hid (1<=1+r/\1+r<=4):=M5;have A:cJ.wrap (1+r)=1+r:=dI Y Y;clear hr)|(go_at_call 36;apply(l _ d).mono;rintro e a ⟨rfl,h0⟩;subst a)|(go_at_call 67;apply j.mono;rintro e a ⟨rfl,h0⟩;subst a))
 go_ret;exact⟨U,o⟩
def Fx.ku(f:Fx)(j:Nat)(k:Int):Fx:=(f.jV j k).at j ((Ck.fresh f.bF k f.g.bu).send gm)
def RG(g:Cf)(a xb:Nat)(f:Fx)(c:Cw)(j:Nat)(ps:av Nat)(w':aq):Prop:=∃k:Int,(1<=k/\k<=4)/\uH w' g a xb (f.ku j k) {c with S:=c.S++[⟨k,⟨#[]⟩,aa⟩]} ps
def YU(cb xb g f)(c:Cw)(L)(m:Cm)(w)(T:bz w g cb xb f c L m)(x)(hx:dy x)(hf:f.K.length<=65535)(X:f.stop=aa)(j)(z:f.K[j]? =Z aj)(Q:∀i,i<j->f.K[i]? ≠Z aj)(hl:c.S.length<=1099511627776)(hn:(gU c.S:Int)<g.cl)(q:f.bF=c.S.length)(V:∀(s:Nat) k,f.K[s]? =Z (Z k)->k.no≠f.bF):
  Calls prog 31 #[jp cb,I x] w λe h=>e=aG (.bool M)/\RG g cb xb f c j m.ps h:=by
 let⟨iP,aT,oh,bl,oZ⟩:=nG acH
 have c9:=aJ w cb 9 (jp xb) T.cr
 have HN:Hid (∀k,1<=k/\k<=4->Calls prog 36 #[jp xb,I k] w λe h=>e=aG (.tuple #[I c.S.length,I 0])/\∃o,bz h g cb xb (f.jV j k) c o m):=λk hk=>by refine(abv w f xb L T.fx hf X k (by simp[ia];omega) j z Q Y).mono ?_;rintro e h ⟨rfl,o,l,h2⟩;exact⟨by rw[q],T.go l h2⟩
 have HL:Hid (∀a f1 d,bz a g cb xb f1 c d m->eZ 67 #[jp cb] a (I<|gU c.S)):=λa f1 d l=>Za cb xb g f1 c d m a l hl
 have HS:Hid (∀k a d,bz a g cb xb (f.jV j k) c d m->Calls prog 37 #[jp xb,I c.S.length,.string gm] a λe h=>e=aG (I 0)/\∃o,bz h g cb xb (f.ku j k) c o m):=λk a d l=>by
  have aS:(f.jV j k).K[j]? =Z (Z<|Ck.fresh f.bF k f.g.bu):=iy ((bY.1 z).1);have aW:(f.jV j k).Is c.S.length j (Ck.fresh f.bF k f.g.bu):=by refine⟨aS,q,λt k' u bg=>?_⟩;by_cases e:t=j;exact e;have u:(f.K.set j _)[t]? =Z (Z k'):=u;rw[gQ<|dB e]at u;exact absurd (bg.trans q.symm)<|V t k' u
  have e:(f.jV j k).send j (Ck.fresh f.bF k f.g.bu) gm=(f.ku j k,0):=by unfold Fx.send;rw[aI acu,aI (show ¬1024<(Ck.fresh f.bF k f.g.bu).aN.size+gm.size from(by decide:¬1024<(⟨#[]⟩:ByteArray).size+gm.size))];rfl
  refine(Uq a _ xb d l.fx (by show(f.K.set j _).length<=_;rw[jB];exact hf) c.S.length gm j _ aW (show(⟨#[]⟩:ByteArray).size<=1024 from by decide)).mono ?_;rintro e' h ⟨rfl,o,J,h4⟩;rw[e]at J⊢;exact⟨U,l.go J h4⟩
 have bB:¬(gU c.S:Int)≥g.cl:=Y
 let⟨E,G,H⟩:=gP T.gV
 have p:=aX H;clear T z Q V X q H;generalize gU c.S=N at*;have Ew:True:=trivial;go_enter func31,ntmps31
 go_wp2_with (first
  |(go_at_call 21;apply(aX<|NN x 4 w hx aM aM).mono;rintro e B ⟨r,rfl,hr,h0⟩;subst B;have R:Hid (1<=1+r/\1+r<=4):=M5;have bL:cJ.wrap (1+r)=1+r:=dI Y Y;clear hr)|(go_at_call 36;go_loud (apply(HN _ R).mono;rintro e a ⟨rfl,d,A⟩;have d9:=aJ a cb 9 (jp xb) A.cr;have D:=aX A;clear A))|(go_at_call 67;apply(HL _ _ _ D).mono;rintro e B ⟨rfl,h0⟩;subst B)|(go_at_call 37;apply(HS _ a d D).mono;rintro e b ⟨rfl,L2,n⟩;have f9:b.cell? (F cb 10)=Z (.slice E c.S.length G):=(by rw[<-p];exact aD n.cr U);have f1:=aJ b cb 1 (I g.cl) n.cr;have bJ:cb<b.heap.size:=(bf.1 n.cr).1;have bG:¬cb=b.heap.size:=Y;have bH:¬cb=b.heap.size+1:=Y;have H2:=aX n;have HR:Hid (((b.alloc<|au (vh c.S.length ⟨1+r,⟨#[]⟩,aa⟩) 66).alloc<|au #[jp b.heap.size] 49).ownsRow 0 49 1 (.slice E c.S.length G) c.S.length<|pz m.ps):=(by show KO _ _ _ _ _ _ _;rw[<-p];exact(n.gV.alloc _).alloc _);clear n)|(at_builtin;have _t:=Ew;go_loud (refine Re _ n7 _ _ 37 n7 0 49 iP _ 1 8 underlying37 aT oh bl oZ n7 Y _ c.S.length (pz m.ps) n7 HR ⟨b.heap.size+1,0,aj⟩ 1 1 [jp b.heap.size] n7 n7 (wu<|ajz b _ _) ack Y B5 Y ay (b.heap.size+2) ay ?_;intro g0 cap w3 W P O bD;clear Ew;let⟨v,C⟩:=bz.LC (s:=⟨1+r,⟨#[]⟩,aa⟩) H2 W (by rw[p];exact P) (by rw[p];exact O);have c3:=aJ w3 cb 10 m.lv v;have f3:=bp v 10;have HE:Hid (RG g cb xb f c j m.ps<|w3.setCell (F cb 10)<|.slice (Z<|F g0 0) (c.S.length+1) cap):=⟨_,R,_,_,C,List.prefix_append _ _⟩;clear v C W P O)))
 go_ret;exact⟨U,HE⟩
def qy:aV aB->Nat
 |some (.string s)=>s.size|_=>0
def ajC(u xb:Nat)(g:Cf)(f:Fx)(c:Cw)(L:cZ)(m:Cm)(w:aq)(h:bz w g u xb f c L m)(i p:Nat)(s:Sl)(hs:c.S[i]? =Z s)(hp:m.ps[i]? =Z p)(a:av Tk)(hh:s.hd.data.toList=a.flatMap (iY c.W))(ok:∀t∈a,mU i c.W t)(nd:(a.filterMap Tk.no).Nodup)(wo:mA c.W)(bE:s.hd.size<=1048576)(Va:0<=c.now):
  Calls prog 65 #[jp u,jp p] w λe w'=>e=aG (.bool M)/\bz w' g u xb f {c with S:=c.S.set i {s with hd:=⟨#[]⟩},W:=dS c.now c.W a} L m:=by
 have hi:i<c.S.length:=(bY.1 hs).1;have N:Hid (i<c.S.length/\m.ps[i]? =Z p):=⟨hi,hp⟩
 have H0:Hid (mz w g u xb f c L m i s (dS c.now c.W a) w c.W s.hd a):=by
  refine⟨?_,hh,ok,nd,wo,U⟩;have e:c.S.set i {s with hd:=s.hd}=c.S:=by
   refine ux λk=>?_;rw[rM];split;rename_i e;subst e;first|rw[aO hi,hs]|rw[hs]
   rfl
  rw[e];exact h
 generalize dS c.now c.W a=E at*;clear h hs hp hh ok nd wo hi;go_enter func65,ntmps65;go_wp2
 go_loopw [] (λwr=>∃W hd a,hd.size<=1048576/\Hid (mz w g u xb f c L m i s E wr W hd a)) (λwr=>qy (wr.cell?<|F p 2))
 case atStart=>exact⟨_,_,_,bE,H0⟩
 case round=>
  obtain⟨W,hd,a,hz,l⟩:=hrel;obtain⟨p',bh,A,_⟩:=l.out.cr.Bg (i:=i) (s:={s with hd:=hd}) (iy N.out.1);rw[N.out.2]at bh;cases bh;have c0:=aJ wr p 0 (I i) A;have c2:=aJ wr p 2 (.string hd) A;have f2:=bp A 2;cases a with
  |nil=>
   have hn:hd.size=0:=by have:=cG BU l.out.hd;exact akY
   have bT:¬(0:Int)<(hd.size:Int):=Y;go_wp2;go_ret;refine⟨U,?_⟩;have e:hd=⟨#[]⟩:=by
    cases hd with
    |mk d=>have:d.size=0:=hn;rw[zv this]
   have h1:=l.out.cr;have Q:W=E:=l.out.fin;rw[e,Q]at h1;exact h1
  |cons t a=>
   rcases t with b|⟨j,e,t⟩
   ·have bD:0<hd.size:=by have:=cG BU l.out.hd;simp[iY]at this;have Q:hd.data.size=hd.size:=U;omega
    have bB:(0:Int)<(hd.size:Int):=Y;have X:=pV hd 0 bD;have O:bt hd 0=(b.toNat:Int):=by rw[wU l.out.hd 0];rfl
    have o:Hid (mz w g u xb f c L m i s E (wr.setCell (F p 2)<|.string<|hd.extract 1 hd.size) W (hd.extract 1 hd.size) a):=l.out.letter N.out.2 N.out.1;have cq:(hd.extract 1 hd.size).size=hd.size-1:=ay;have bA:b=89\/b=71:=l.out.ok _ (fJ ..);have aS:=aJ (wr.setCell (F p 2)<|.string<|hd.extract 1 hd.size) p 2 (.string<|hd.extract 1 hd.size) (bG A 2 _);have HM:Hid (qy ((wr.setCell (F p 2)<|.string<|hd.extract 1 hd.size).cell?<|F p 2)<qy (wr.cell?<|F p 2)):=by rw[c2,aS];show(hd.extract 1 hd.size).size<hd.size;omega
    clear aS A l H0;rcases bA with rfl|rfl
    ·have O:bt hd 0=89:=O;rw[O]at X;go_wp2;go_roundw;case rel=>exact⟨W,hd.extract 1 hd.size,a,Y,o⟩
     case measure=>exact HM.out
    rw[O]at X;go_wp2;go_roundw;case rel=>exact⟨W,hd.extract 1 hd.size,a,Y,o⟩
    case measure=>exact HM.out
   obtain⟨r,K,aN,bw,he,ah⟩:mU i W (.inr (j,e,t)):=l.out.ok _ (fJ ..);obtain⟨q,hq,z,_⟩:=l.out.cr.Jy K;have wo:=l.out.wo;obtain⟨uW,MV⟩:=wo.one j r K;have J:hd.data.toList=82::e::ji ((r.ck:Int)%256).toNat::ji ((r.ck:Int) / 256).toNat::(t++a.flatMap (iY W)):=by rw[l.out.hd];show 82::e::(cu (iW W j)++t)++a.flatMap (iY W)=_;rw[show iW W j=r.ck by unfold iW;rw[K]];simp[cu]
   generalize a.flatMap (iY W)=R at J;have b9:t.length+4<=hd.size:=by have:=cG BU J;simp at this;have Q:hd.data.size=hd.size:=U;omega
   have X:=pV hd 0 Y;have P:=pV hd 1 Y;have e2:=pV hd 2 Y;have e3:=pV hd 3 Y;rw[show bt hd 0=82 by rw[wU J 0];rfl]at X;rw[show bt hd 1=(e.toNat:Int) by rw[wU J 1];rfl]at P;have aT:bt hd 2+256*bt hd 3=(r.ck:Int):=by rw[wU J 2,wU J 3];exact Nl r.ck uW
   have r2:=nU hd 2;have r3:=nU hd 3;have cg:cJ.wrap (256*bt hd 3)=256*bt hd 3:=dI Y Y;have cj:cJ.wrap (bt hd 2+256*bt hd 3)=(r.ck:Int):=by rw[aT];exact dI Y Y
   have V:Hid (∀n,Calls prog 110 #[jp u,I i,I r.ck] (wr.drewN n) λe w'=>e=aG (jp q)/\w'=wr.drewN n):=λn=>by refine(akf u xb g f _ L m (wr.drewN n) (l.out.cr.old λ_ _=>U) i r.ck j r K ⟨aN,U⟩ (λk x hx h1 Q=>xV (wo.two j k r x K hx (aN.trans h1.symm) Q.symm)) wo.dO).mono ?_;rintro e w' ⟨q',Dy,rfl,rfl⟩;rw[hq]at Dy;cases Dy;exact⟨U,U⟩
   have k2:=aJ wr q 2 (I r.kd) z;have k5:=aJ wr q 5 (I r.ln) z;have k8:=aJ wr q 8 (I r.bk) z;have k9:=aJ wr q 9 (I r.er) z;have cv:=aJ wr q 10 (.string r.tx) z;have g8:=bp z 8;have g9:=bp z 9;have bP:=bp z 10;have bL:=aJ wr u 12 (I c.now) l.out.cr.cr;have an:¬p=q:=mC A z aM;have bW:¬q=p:=λe=>an e.symm;have bX:¬u=q:=mC l.out.cr.cr z aM;have b7:¬u=p:=mC l.out.cr.cr A aM;have bS:¬0<=r.bk:=Y;have bB:(0:Int)<(hd.size:Int):=Y;have Vh:¬(hd.size:Int)<4:=Y;have B:Hid (∀n,t.length+4=n->mz w g u xb f c L m i s E ((((wr.setCell (F q 8)<|I c.now).setCell (F q 9)<|I e.toNat).setCell (F q 10)<|.string<|hd.extract 4 n).setCell (F p 2)<|.string<|hd.extract n hd.size) (W.set j<|r.had c.now e t) (hd.extract n hd.size) a):=λn hn=>l.out.afX N.out.2 N.out.1 K hq hn;have HM:Hid (∀n v9 bq,4<=n->qy (((((wr.setCell (F q 8)<|I c.now).setCell (F q 9) v9).setCell (F q 10) bq).setCell (F p 2)<|.string<|hd.extract n hd.size).cell?<|F p 2)<qy (wr.cell?<|F p 2)):=λn v9 bq hn=>by rw[c2,aD (bG (((bC an).trans<|(bC an).trans<|bC an).trans A) 2 _) U];show(hd.extract n hd.size).size<hd.size;simp;omega
   clear A z l H0 J wo K hq aN bw uW aT;by_cases T:r.kd=0
   ·rcases he with rfl|rfl
    ·rw[aO ⟨T,U⟩]at ah;have Vn:cJ.wrap (4+r.ln)=4+r.ln:=dI Y Y;have b8:¬(hd.size:Int)<4+r.ln:=Y;have oY:4<=4+r.ln/\4+r.ln<=(hd.size:Int):=Y;have lD:0<=4+r.ln/\4+r.ln<=(hd.size:Int):=Y;have H:((0:UInt8).toNat:Int)=0:=U;rw[H]at P;rw[T]at k2;have o:=B.out (4+r.ln).toNat Y;have v:=HM.out (4+r.ln).toNat (I 0) (.string<|hd.extract 4 (4+r.ln).toNat) Y;have D:Hid (mz w g u xb f c L m i s E ((((wr.setCell (F q 8)<|I c.now).setCell (F q 9)<|I 0).setCell (F q 10)<|.string<|hd.extract 4 (4+r.ln).toNat).setCell (F p 2)<|.string<|hd.extract (4+r.ln).toNat hd.size) (W.set j<|r.had c.now 0 t) (hd.extract (4+r.ln).toNat hd.size) a):=o;have G:Hid (qy (((((wr.setCell (F q 8)<|I c.now).setCell (F q 9)<|I 0).setCell (F q 10)<|.string<|hd.extract 4 (4+r.ln).toNat).setCell (F p 2)<|.string<|hd.extract (4+r.ln).toNat hd.size).cell?<|F p 2)<qy (wr.cell?<|F p 2)):=v;clear o v B HM;go_wp2;go_quiet ((go_at_call 110;exact ur (V.out _)));go_wp2;go_roundw;case rel=>exact⟨W.set j<|r.had c.now 0 t,hd.extract (4+r.ln).toNat hd.size,a,bV,D.out.drewN _⟩
     case measure=>exact G.out
    rw[aI λh=>absurd h.2 aM]at ah;have C:hd.extract 4 4=rF:=ay;have oY:(4:Int)<=(hd.size:Int):=Y;have H:((5:UInt8).toNat:Int)=5:=U;rw[H]at P;rw[T]at k2;have o:=B.out 4 Y;have v:=HM.out 4 (I 5) (.string<|rF) Y;rw[C]at o;have D:Hid (mz w g u xb f c L m i s E ((((wr.setCell (F q 8)<|I c.now).setCell (F q 9)<|I 5).setCell (F q 10)<|.string<|rF).setCell (F p 2)<|.string<|hd.extract 4 hd.size) (W.set j<|r.had c.now 5 t) (hd.extract 4 hd.size) a):=o;have G:Hid (qy (((((wr.setCell (F q 8)<|I c.now).setCell (F q 9)<|I 5).setCell (F q 10)<|.string<|rF).setCell (F p 2)<|.string<|hd.extract 4 hd.size).cell?<|F p 2)<qy (wr.cell?<|F p 2)):=v;clear o v B HM C;go_wp2;go_quiet ((go_at_call 110;exact ur (V.out _)));go_wp2;go_roundw;case rel=>exact⟨W.set j<|r.had c.now 5 t,hd.extract 4 hd.size,a,bV,D.out.drewN _⟩
    case measure=>exact G.out
   rcases he with rfl|rfl
   ·rw[aI (by simp[T])]at ah;have C:hd.extract 4 4=rF:=ay;have oY:(4:Int)<=(hd.size:Int):=Y;have H:((0:UInt8).toNat:Int)=0:=U;rw[H]at P;have o:=B.out 4 Y;have v:=HM.out 4 (I 0) (.string<|rF) Y;rw[C]at o;have D:Hid (mz w g u xb f c L m i s E ((((wr.setCell (F q 8)<|I c.now).setCell (F q 9)<|I 0).setCell (F q 10)<|.string<|rF).setCell (F p 2)<|.string<|hd.extract 4 hd.size) (W.set j<|r.had c.now 0 t) (hd.extract 4 hd.size) a):=o;have G:Hid (qy (((((wr.setCell (F q 8)<|I c.now).setCell (F q 9)<|I 0).setCell (F q 10)<|.string<|rF).setCell (F p 2)<|.string<|hd.extract 4 hd.size).cell?<|F p 2)<qy (wr.cell?<|F p 2)):=v;clear o v B HM C;go_wp2;go_quiet ((go_at_call 110;exact ur (V.out _)));go_wp2;go_roundw;case rel=>exact⟨W.set j<|r.had c.now 0 t,hd.extract 4 hd.size,a,bV,D.out.drewN _⟩
    case measure=>exact G.out
   rw[aI (by simp[T])]at ah;have C:hd.extract 4 4=rF:=ay;have oY:(4:Int)<=(hd.size:Int):=Y;have H:((5:UInt8).toNat:Int)=5:=U;rw[H]at P;have o:=B.out 4 Y;have v:=HM.out 4 (I 5) (.string<|rF) Y;rw[C]at o;have D:Hid (mz w g u xb f c L m i s E ((((wr.setCell (F q 8)<|I c.now).setCell (F q 9)<|I 5).setCell (F q 10)<|.string<|rF).setCell (F p 2)<|.string<|hd.extract 4 hd.size) (W.set j<|r.had c.now 5 t) (hd.extract 4 hd.size) a):=o;have G:Hid (qy (((((wr.setCell (F q 8)<|I c.now).setCell (F q 9)<|I 5).setCell (F q 10)<|.string<|rF).setCell (F p 2)<|.string<|hd.extract 4 hd.size).cell?<|F p 2)<qy (wr.cell?<|F p 2)):=v;clear o v B HM C;go_wp2;go_quiet ((go_at_call 110;exact ur (V.out _)));go_wp2;go_roundw;case rel=>exact⟨W.set j<|r.had c.now 5 t,hd.extract 4 hd.size,a,bV,D.out.drewN _⟩
   case measure=>exact G.out
def Ck.abR(k:Ck)(h:k.out.size<=1048576):k.tO 1099511627776=k.out:=by unfold Ck.tO Ck.much;rw[aI aM,show(min 1099511627776 (k.out.size:Int)).toNat=k.out.size by omega];exact ByteArray.extract_zero_size
def Zh(cb xb g f)(c:Cw)(L)(m:Cm)(w)(h:bz w g cb xb f c L m)(i p j:Nat)(s:Sl)(k:Ck)(q:c.S[i]? =Z s)(u:m.ps[i]? =Z p)(he:s.hd=⟨#[]⟩)(H:f.Is i j k)(hf:f.K.length<=65535)(G:(f.at j<|k.takes 1099511627776).sn)(n:av Tk)(E:k.out.data.toList=n.flatMap (iY c.W))(ok:∀t∈n,mU i c.W t)(J:(n.filterMap Tk.no).Nodup)(wo:mA c.W)(x:k.out.size<=1048576)(V:0<=c.now):
  Calls prog 27 #[jp cb,jp p] w λe r=>e=aG (.bool M)/\∃A,bz r g cb xb (f.take j k 1099511627776) {c with W:=dS c.now c.W n} A m:=by
 have R:=aJ w cb 9 (jp xb) h.cr;have Q:w.cell? (F p 0)=Z (I i):=aD (h.sl i p s u q).1 U
 have O:Hid (Calls prog 33 #[jp xb,I i,I 1099511627776] w.drew λe d=>e=aG (.tuple #[.string k.out,I 0])/\∃a,bz d g cb xb (f.take j k 1099511627776) c a m):=by have B:bz w.drew g cb xb f c L m:=h.old λ_ _=>U;apply(abH w.drew f xb L B.fx hf i _ j k H x G).mono;rintro e r ⟨rfl,A,v,C⟩;exact⟨by rw[Ck.abR k x];rfl,B.go v C⟩
 have P:Hid (∀d a,bz d g cb xb (f.take j k 1099511627776) {c with S:=c.S.set i {s with hd:=k.out}} a m->Calls prog 65 #[jp cb,jp p] d λe r=>e=aG (.bool M)/\bz r g cb xb (f.take j k 1099511627776) {c with W:=dS c.now c.W n} a m):=λd a v=>by
  have T:=(bY.1 q).1;refine(ajC cb xb g _ _ a m d v i p {s with hd:=k.out} (iy T) u n E ok J wo x V).mono ?_;rintro e r ⟨rfl,C⟩;refine⟨U,?_⟩;have e:(c.S.set i {s with hd:=k.out}).set i {s with hd:=⟨#[]⟩}=c.S:=by rw[pK];refine ux λk=>?_;rw[rM];split;rename_i e;subst e;rw[q,<-he];rfl
  rwa [<-e]
 have o:Hid (m.ps[i]? =Z p/\c.S[i]? =Z s/\s.hd=⟨#[]⟩):=⟨u,q,he⟩;clear h q u he H G E ok J wo;go_enter func27,ntmps27
 go_upto_region 1 with fail
 refine gY (S:=λW=>W.cell? (F cb 9)=Z (jp xb)/\W.cell? (F p 0)=Z (I i)) 8 ⟨R,Q⟩ λhS=>?_;apply tg [0,1,2,3,4,5,6,7];refine gz λK D=>?_;go_simp;go_at_call 33;apply O.out.mono;rintro e d ⟨rfl,a,z⟩;apply D.out _ _;clear D K;apply tg [9,10,11,12,13];refine gl ?_;have l:=(z.sl i p s o.out.1 o.out.2.1).1
 have d2:d.cell? (F p 2)=Z (.string ⟨#[]⟩):=by have:d.cell? (F p 2)=Z (.string s.hd):=aD l U;rwa [o.out.2.2]at this
 have f2:=bp l 2;have N:Hid (bz (d.setCell (F p 2)<|.string k.out) g cb xb (f.take j k 1099511627776) {c with S:=c.S.set i {s with hd:=k.out}} a m):=z.Iv o.out.1 (bY.1 o.out.2.1).1 (bG l 2 _) λb l=>bC l;clear z l hS
 have ah:¬9223372036854775807<(⟨#[]⟩:ByteArray).size+k.out.size:=by show ¬9223372036854775807<0+k.out.size;omega
 have af:(⟨#[]⟩:ByteArray)++k.out=k.out:=ByteArray.empty_append;go_wp2_with (go_at_call 65;apply(P.out _ a N.out).mono;rintro e w2 ⟨rfl,X⟩);go_ret;exact⟨U,a,X⟩
def akm(cb xb g f f')(c:Cw)(L)(m:Cm)(w)(h:bz w g cb xb f c L m)(i p:Nat)(s:Sl)(o:c.S[i]? =Z s)(n:m.ps[i]? =Z p)(t:∀W L,aE W f xb L->Calls prog 39 #[jp xb,I i] W λe k=>e=aG (I 0)/\∃d,aE k f' xb d/\bE W L k d):
  Calls prog 56 #[jp cb,jp p] w λe k=>e=aG (.bool M)/\∃d,bz k g cb xb f' {c with S:=c.S.set i {s with aw:=M}} d m:=by
 have a:=(h.sl i p s n o).1;have B:=mC a h.cr aM;have D:¬cb=p:=λe=>B e.symm;have j:=h.Iv (s:={s with aw:=M}) n ((bY.1 o).1) (bG a 3<|.bool M) λb a=>bC a;have a3:=aJ w p 3 (.bool s.aw) a;have f3:=bp a 3;have z:=aJ (w.setCell (F p 3)<|.bool M) cb 9 (jp xb) j.cr;have x:=aJ (w.setCell (F p 3)<|.bool M) p 0 (I i) (bG a 3 _)
 have v:Hid (Calls prog 39 #[jp xb,I i] (w.setCell (F p 3)<|.bool M).drew λe u=>e=aG (I 0)/\∃l,bz u g cb xb f' {c with S:=c.S.set i {s with aw:=M}} l m):=by have q:=j.old (u':=(w.setCell (F p 3)<|.bool M).drew) λ_ _=>U;apply(t _ L q.fx).mono;rintro e k ⟨rfl,d,j,A⟩;exact⟨U,q.go j A⟩
 clear h j a o n t;go_enter func56,ntmps56
 go_upto_region 2 with fail
 refine gY (S:=λW=>W.cell? (F cb 9)=Z (jp xb)/\W.cell? (F p 0)=Z (I i)) 8 ⟨z,x⟩ λhS=>?_;apply tg [0,1,2,3,4,5,6,7];refine gz λK r=>?_;go_simp;go_at_call 39;apply v.mono;rintro e u ⟨rfl,l,C⟩;apply r _ _;clear r K;apply tg [9];refine gl ?_;clear hS;go_wp2;go_ret;exact⟨U,l,C⟩
def K5(d xb:Nat)(g:Cf)(f:Fx)(c:Cw)(ps:av Nat)(u:aq):Prop:=∃b a,b.Rest/\(b=f\/∃t,b=f.sI t/\1<=t.delay/\t.delay<=a)/\(c.dl<=a/\a<=16)/\uH u g d xb b {c with dl:=a} ps
def ake(cb xb g f)(c:Cw)(L1)(l:Cm)(w)(T:bz w g cb xb f c L1 l)(kd x d z)(hR:f.Rest)(hx:dy x)(hy:dy d)(hz:dy z)(hd:c.dl<=16):
  Calls prog 41 #[jp cb,.agg #[I kd,I x,I d,I z]] w λe H=>e=aG (.bool M)/\K5 cb xb g f c l.ps H:=by
 have P:=(Below.refl _ w).alloc (aR _) (au #[I kd,I x,I d,I z] 46);have O:=T.below P;have E:(w.alloc<|au #[I kd,I x,I d,I z] 46).heap[w.heap.size]? =Z (au #[I kd,I x,I d,I z] 46 (0,0)):=new1 U;have A:=aX O;have s2:=aJ (w.alloc<|au #[I kd,I x,I d,I z] 46) w.heap.size 1 (I x) E;have L:=aX E;have v:Hid (∀(c m:Int) (W:aq),dy c->0<m->m<=16->Calls prog 21 #[I c,I m] W λe H=>∃r,e=aG (I r)/\(0<=r/\r<m)/\H=W):=λc m W C D X=>NN c m W C D Y;have q:Hid (f.Rest/\c.dl<=16):=⟨hR,hd⟩;clear E T O P hR hd;go_enter func41,ntmps41
 go_upto_region 2 with(go_at_call 21;apply(v x 16 _ hx aM aM).mono;rintro e w0 ⟨a,rfl,Vk,h0⟩;subst w0;have n:Hid (1<=1+a/\1+a<=16):=(by show 1<=1+a/\1+a<=16;omega);have aT:cJ.wrap (1+a)=1+a:=dI Y Y;clear Vk)
 generalize w.alloc (au #[I kd,I x,I d,I z] 46)=i at*;apply wp_region_noPanic;refine Ze (S:=λW=>W.cell? (F w.heap.size 2)=Z (I d)/\W.cell? (F w.heap.size 3)=Z (I z)/\W.cell? (F cb 9)=Z (jp xb)) 12 aW ⟨aD (w:=i) L U,aD (w:=i) L U,aD (w:=i) A.cr U⟩ ?_;intro hS;apply tg [0,1,2,3,4,5,6,9];apply tg [10];refine gr 7 λK j=>?_;go_simp;go_at_call 21;apply(v d 4 _ hy aM aM).mono;rintro e J ⟨r2,rfl,aQ,h0⟩;subst J;refine j _ _ hS<|λyG=>?_;clear j K;apply tg [8];refine gr 11 λK j=>?_;go_simp;go_at_call 21;apply(v z 9 _ hz aM aM).mono;rintro e J ⟨u,rfl,aS,h0⟩;subst J;refine j _ _ hS<|λMK=>?_;clear j K;refine gz λK j=>?_;go_simp;go_at_call 76;refine(abA i.drew f xb L1 A.fx.drew ⟨1+a,r2==0,u⟩ n (by show 0<=u;omega)).mono ?_;rintro e w2 ⟨k,m,rfl,G,L2,Q,R⟩
 let⟨B,s⟩:=bz.go (A.old (u':=i.drew) λ_ _=>U) Q R
 apply j _ _;clear j K;apply tg [13];refine gl ?_;have aL:=aJ w2 cb 13 (I c.dl) s.cr;have f13:=bp s.cr 13;have o:=aX s
 have p:Hid (k.Rest/\(k=f/\m=6\/∃t,k=f.sI t/\1<=t.delay/\t.delay<=1+a)):=by rcases G with⟨_,rfl⟩|⟨_,hl,rfl⟩;exact⟨q.1,aA ⟨rfl,acj⟩⟩;exact⟨q.1.sI hl n (by show 0<=u/\u<=_;omega),az ⟨_,rfl,n.1,fI _⟩⟩
 clear s Q R;have hm:m=6/\k=f\/m=0:=G.elim aA λh=>az h.1;clear G;rcases hm with⟨rfl,V⟩|rfl
 ·go_wp2;go_ret;exact⟨U,k,c.dl,p.1,aA V,⟨fI _,q.2⟩,B,l,o,qD _⟩
 have N:=aX (p.2.elim (λh=>absurd h.2 aM) λh=>h)
 by_cases aN:1+a>c.dl
 ·go_wp2;go_ret;exact⟨U,k,1+a,p.1,az N,⟨Y,n.2⟩,B,l,o.box U U (bG o.cr 13 _)<|λb hb=>bC hb,qD _⟩
 go_wp2;go_ret
 let⟨t,C,D,X⟩:=N
 exact⟨U,k,c.dl,p.1,az ⟨t,C,D,Y⟩,⟨fI _,q.2⟩,B,l,o,qD _⟩
abbrev Wi.msg(r:Wi):bh:=⟨3,⟨#[]⟩,r.kd,r.fl,r.ck,r.of,r.ln,r.dt,0⟩
def YX(r:Wi):r.dV.data.toList=[81,ji r.kd.toNat,ji r.fl.toNat]++cu r.ck++cu r.of++cu r.ln++r.dt.data.toList:=by unfold Wi.dV zi;simp[zB,uh]
def ED(r:Wi):r.dV.size=9+r.dt.size:=by show r.dV.data.size=9+r.dt.data.size;rw[<-lQ,YX,<-lQ];simp[cu];omega
def VQ{n}(h0:0<=n)(h:n<=65535):(((ji (n %256).toNat).toNat:Int))+256*((ji (n / 256).toNat).toNat:Int)=n:=by obtain⟨k,rfl⟩:=Int.eq_ofNat_of_zero_le h0;exact Nl k Y
def Wi.Good.verdict{g}{r:Wi}(h:r.Good g):verdict g.sz r.kd r.fl r.of r.ln=0:=by have b:=h.kd;have a:=h.fl;have d:=h.of;have c:=h.ln;unfold Go.Proofs.YtpobhljcainmdaaGreat.verdict;grind
def Wi.Good.small{g}{r:Wi}(hI:g.Is)(h:r.Good g):(0<=r.of/\r.of<=65535)/\(0<=r.ln/\r.ln<=65535)/\(r.dt.size:Int)=if r.kd=1 then r.ln else 0:=by have e:=hI.sz;have c:=hI.mx;have d:=h.of;have a:=h.ln;have b:0<=r.ln:=j4;refine⟨Y,Y,?_⟩;rw[h.dt];split;rw[IS];omega;rfl
def Ub{g}{r:Wi}{s t}(us)(hI:g.Is)(a:r.Good g)(hc:r.ck<=65535)(v:(r.ck:Int)∉us)(h:s.data.toList=r.dV.data.toList++t):first g.sz g.mx 2 us s=(r.msg,(r.dV.size:Int)):=by
 let⟨i,f,e⟩:=a.small hI;have q:=a.of;have p:=a.kd;have o:=a.fl;rw[(YX r)]at h;have b:=wU h;have u:s.size=9+r.dt.size+t.length:=by show s.data.size=9+r.dt.data.size+t.length;rw[<-lQ,h,<-lQ];simp[cu];omega
 have j:bt s 0=81:=b 0;have b1:bt s 1=r.kd:=by rw[b 1];show(((ji r.kd.toNat).toNat:Nat):Int)=_;rw[zQ];omega
 have d:bt s 2=r.fl:=by rw[b 2];show(((ji r.fl.toNat).toNat:Nat):Int)=_;rw[zQ];omega
 have t3:two s 3=r.ck:=by unfold two;rw[b 3,b 4];exact Nl r.ck hc
 have t5:two s 5=r.of:=by unfold two;rw[b 5,b 6];exact VQ i.1 i.2
 have t7:two s 7=r.ln:=by unfold two;rw[b 7,b 8];exact VQ f.1 f.2
 show mH g.sz g.mx us s=_;unfold mH;rw[aI Y,j,t7,t3,aI j4,b1];by_cases c:r.kd=1;rw[aO c]at e;have l:s.extract 9 (9+r.ln).toNat=r.dt:=by
  refine rG<|BB.1 ?_;rw[rE,zz,h,Kh];have m:([81,ji r.kd.toNat,ji r.fl.toNat]++cu r.ck++cu r.of++cu r.ln).length=9:=by simp[cu]
  rw[lS _ r.dt.data.toList t,Kg Y,BR Y,jZ];have k:(9+r.ln).toNat-9=r.dt.data.toList.length:=by rw[lQ];show _=r.dt.size;omega
  rw[k,C8<|aR _,pM]
 rw[aO c,aI Y,d,t5,a.verdict,l,ED];grind;rw[aI c]at e;have n:r.dt=⟨#[]⟩:=by rw[a.dt,aI c]
 rw[aI c,d,t5,a.verdict,ED];grind
section
open Go.ConcR (Payload)
def Fx.fix(f:Fx):Cf×Int×Bool:=(f.g,f.bF,f.stop)
def GM(st:Fx->Nat->Fx)(h:∀f s,(st f s).fix=f.fix):∀(l:av Nat) (f:Fx),(l.foldl st f).fix=f.fix
 |[],f=>rfl|s::l,f=>(GM st h l<|st f s).trans (h f s)
def aao(f:Fx)(s):(f.fY s).fix=f.fix:=by unfold Fx.fY;split<;>rfl
def aeu(f:Fx)(s):(f.eV s).fix=f.fix:=by unfold Fx.eV;split<;>rfl
def abW(f:Fx)(s):(f.dP s).fix=f.fix:=by unfold Fx.dP;split;split<;>rfl;rfl
def TQ:∀(n:Nat) (f:Fx),(Fx.fin n f).fix=f.fix
 |0,f=>rfl|n+1,f=>by unfold Fx.fin;split;rfl;split;refine(TQ n _).trans ?_;unfold Fx.does;split<;>rfl;rfl
def PE:∀(n p:Nat) (f:Fx),(Fx.turns n p f).fix=f.fix
 |0,_,f=>rfl|n+1,p,f=>by
  have a:f.bg.1.fix=f.fix:=by unfold Fx.bg;split;split;split<;>rfl;rfl;rfl
  unfold Fx.turns;split;split;exact(PE n _ _).trans a;exact(PE n _ _).trans a;rfl
def Jn(f:Fx):f.tick.fix=f.fix:=by
 have b:f.early.goes.fix=f.early.fix:=by unfold Fx.goes;split;rfl;exact(GM _ aeu _ _).trans U
 exact(GM _ abW _ _).trans<|(PE _ _ _).trans<|(TQ _ _).trans<|b.trans (GM _ aao _ _)
section
end
section
variable [an]
variable [oM]
end
def aeH(cb xb g f)(c:Cw)(L)(m:Cm)(w)(h:bz w g cb xb f c L m)(x)(h0:c.S.length=0):
  Calls prog 55 #[jp cb,I x] w λe b=>e=aG (.pointer aj)/\∃k,b=w.drewN k:=by
 let⟨a,cap,ev⟩:=gP h.gV
 rw[h0]at ev;have d:w.cell? (F cb 10)=Z (.slice a 0 cap):=ev▸aD h.cr U;clear h ev;go_enter func55,ntmps55;go_wp2;go_ret;exact⟨U,0,U⟩
abbrev Cw.til(c:Cw)(n:Int):Cw:={c with now:=n}
abbrev Cw.late(c:Cw):Cw:=c.til (c.now+1)
structure tI(g:Cf)(A:Int->Nat->Prop)(aqd:Nat->Fx->Cw->Prop):Prop where
 is:g.Is
 run:∀{t f c},aqd t f c->f.Rest/\f.g=g/\f.stop=aa/\f.bF=c.S.length
 dO:∀{t f c},aqd t f c->f.clock<=t/\(0<=c.now/\c.now<=t)/\c.S.length<=t+8/\c.W.length<=t/\c.dl<=16
 wo:∀{t f c},aqd t f c->mA c.W
 aC:∀{t f c} {i:Nat} {s},aqd t f c->c.S[i]? =Z s->s.aw=aa->s.hd=⟨#[]⟩/\∃a k,f.Is i a k
 stay:∀{t f c},aqd t f c->aqd (t+1) f c.late
 tick:∀{t f c},A 2 0->aqd t f c->t<1073741824->aqd (t+1) f.tick c.late
 dG:∀{t f c d e},aqd t f c->d.Rest->(d=f\/∃u,d=f.sI u/\1<=u.delay/\u.delay<=e)->c.dl<=e/\e<=16->aqd (t+1) d {c.late with dl:=e}
 full:∀{t f c},aqd t f c->(∀i:Nat,f.K[i]? ≠Z aj)->(gU c.S:Int)=g.cl\/gU c.S<c.S.length
 free:∀{t f c} {j:Nat},aqd t f c->f.K[j]? =Z aj->(gU c.S:Int)<g.cl
 enter:∀{t f c} {j:Nat} {k:Int},aqd t f c->f.K[j]? =Z aj->(∀i,i<j->f.K[i]? ≠Z aj)->1<=k/\k<=4->aqd (t+1) (f.ku j k) {c.late with S:=c.S++[⟨k,⟨#[]⟩,aa⟩]}
 ask:∀{t f c} {i a:Nat} {s k b d n r},A 1 i->aqd t f c->c.S[i]? =Z s->s.aw=aa->f.Is i a k->c.ck<60000->CI g f c.late i a k b d n r->b=M/\aqd (t+1) d n
 take:∀{t f c} {i a:Nat} {s k},A 3 i->aqd t f c->c.S[i]? =Z s->s.aw=aa->f.Is i a k->∃h,k.out.data.toList=h.flatMap (iY c.W)/\(∀t∈h,mU i c.W t)/\(h.filterMap Tk.no).Nodup/\aqd (t+1) (f.take a k 1099511627776) {c.late with W:=dS (c.now+1) c.W h}
 leave:∀{t f c} {i a:Nat} {s k},A 5 i->aqd t f c->c.S[i]? =Z s->s.aw=aa->f.Is i a k->(f.at a k.jd).sn/\aqd (t+1) (f.oX a k) {c.late with S:=c.S.set i {s with aw:=M}}
def fj(u:aq)(g:Cf)(cb xb:Nat)(f:Fx)(c:Cw)(m:Cm):Prop:=∃L,bz u g cb xb f c L m
section
variable [an] {l:av aZ} {u:aq} {g:Cf} {cb xb:Nat} {f:Fx} {c:Cw} {m:Cm} {t:Nat} {A:Int->Nat->Prop} {aqd:Nat->Fx->Cw->Prop}
def fj.tp(B:fj u g cb xb f c m)(a:Tape):fj (u.tp a) g cb xb f c m:=by let⟨L,T⟩:=B;exact⟨L,T.tp a⟩
def fj.drew(B:fj u g cb xb f c m)(a:Tape)(n):fj {u with tape:=a,drawn:=n} g cb xb f c m:=by let⟨L,T⟩:=B;exact⟨L,T.old λ_ _=>U⟩
def fj.at (B:fj u g cb xb f c m):u.heap[cb]? =Z (au (uQ g xb c m) 40 (0,0)):=by let⟨L,T⟩:=B;exact T.cr
def fj.SV(B:fj u g cb xb f c m):uH u g cb xb f c m.ps:=by let⟨L,T⟩:=B;exact⟨L,m,T,qD _⟩
def gL(g:Cf)(aqd:Nat->Fx->Cw->Prop)(t:Nat)(cb xb:Nat)(ps:av Nat)(u:aq):Prop:=∃f c,aqd t f c/\uH u g cb xb f c ps
def gL.mono{ps qs}(h:gL g aqd t cb xb qs u)(e:ps<+:qs):gL g aqd t cb xb ps u:=by let⟨f,c,a,L,m,b,d⟩:=h;exact⟨f,c,a,L,m,b,e.trans d⟩
def gL.tp{ps}(h:gL g aqd t cb xb ps u)(a:Tape):gL g aqd t cb xb ps (u.tp a):=by let⟨f,c,b,d⟩:=h;exact⟨f,c,b,d.tp a⟩
def Y2(n:Fit prog l)(o:an.ok 41)(S:tI g A aqd)(h:aqd t f c)(B:fj u g cb xb f c.late m)(kd x aqi z)(p:dy x)(hy:dy aqi)(q:dy z):
  dX prog 41 #[pt cb,.agg #[I kd,I x,I aqi,I z]] u λe r=>e=aG (.bool M)/\gL g aqd (t+1) cb xb m.ps r:=by
 refine dX.lift n o (λe u a h=>⟨h.1,h.2.tp a⟩) (λe u h=>⟨_,h.1⟩) λa=>?_
 let⟨L,T⟩:=B.tp a
 apply(ake cb xb g f c.late L m (u.tp a) T kd x aqi z (S.run h).1 p hy q (S.dO h).2.2.2.2).mono;rintro e v ⟨rfl,b,s,d,i,j,k⟩;exact⟨U,b,_,S.dG h d i j,k⟩
def abp(K:av (aV Ck)):(∀i:Nat,K[i]? ≠Z aj)\/∃j:Nat,K[j]? =Z aj/\∀i,i<j->K[i]? ≠Z aj:=by
 by_cases h:∃j:Nat,K[j]? =Z aj;refine .inr ?_;let⟨j,k⟩:=h;induction j using Nat.strongRecOn with
 |_ j n=>by_cases b:∃i,i<j/\K[i]? =Z aj;let⟨i,a,d⟩:=b;exact n i a d;exact⟨j,k,λi a e=>b ⟨i,a,e⟩⟩
 exact .inl λi e=>h ⟨i,e⟩
def Y1(q:Fit prog l)(w:an.ok 31)(S:tI g A aqd)(h:aqd t f c)(H:t<1073741824)(B:fj u g cb xb f c.late m)(x)(o:dy x):
  dX prog 31 #[pt cb,I x] u λe z=>e=aG (.bool M)/\gL g aqd (t+1) cb xb m.ps z:=by
 refine dX.lift q w (λe u b h=>⟨h.1,h.2.tp b⟩) (λe u h=>⟨_,h.1⟩) λb=>?_
 let⟨L,T⟩:=B.tp b
 let⟨hR,E,n,r⟩:=S.run h
 have G:=hR.core.small;have D:=(S.dO h).2.2.1;rcases abp f.K with a|⟨j,a,i⟩;refine(akd cb xb g f c.late L m (u.tp b) T x o Y n a j4<|S.full (c:=c) h a).mono ?_;rintro e C ⟨rfl,d⟩;exact⟨U,f,_,S.stay h,L,m,d,qD _⟩;refine(YU cb xb g f c.late L m (u.tp b) T x o Y n j a i j4 (S.free (c:=c) h a) r λs k v=>?_).mono ?_;have:=(hR.core.lI s k v).2;omega;rintro e C ⟨rfl,k,d,p⟩;exact⟨U,_,_,S.enter h a i d,p⟩
def Y5(C:Fit prog l)(E:an.ok 55)(S:tI g A aqd)(h:aqd t f c)(N:t<1073741824)(B:fj u g cb xb f c.late m)(x)(G:dy x):
  dX prog 55 #[pt cb,I x] u λe o=>∃v,e=aG v/\(v=.pointer aj\/∃(i p:Nat) (s:Sl),v=pt p/\c.S[i]? =Z s/\s.aw=aa/\m.ps[i]? =Z p/\(i:Int)=eX x c.S.length)/\o.heap=u.heap/\fj o g cb xb f c.late m:=by
 refine dX.lift C E (λe u a ⟨v,q,r,z,w⟩=>⟨v,q,r,z,w.tp a⟩) (λe u ⟨v,h,_⟩=>⟨_,h⟩) λa=>?_
 let⟨L,T⟩:=B.tp a
 have J:=(S.dO h).2.2.1
 by_cases h0:c.S.length=0
 apply(aeH cb xb g f c.late L m (u.tp a) T x h0).mono;rintro e H ⟨rfl,k,rfl⟩;exact⟨_,U,.inl U,U,L,T.old λ_ _=>U⟩;have K:=AX x (n:=c.S.length) Y;obtain⟨i,d⟩:∃i:Nat,(i:Int)=eX x c.S.length:=⟨(eX x c.S.length).toNat,Y⟩;obtain⟨s,b⟩:∃s,c.S[i]? =Z s:=⟨_,dj Y⟩
 let⟨p,j,_⟩:=T.Bg b
 refine(aeF cb xb g f c.late L m (u.tp a) T x G i p s d b j j4).mono ?_;rintro e H ⟨rfl,k,rfl⟩;cases D:s.aw;exact⟨_,U,.inr ⟨i,p,s,ay,b,D,j,d⟩,U,L,T.old λ_ _=>U⟩;exact⟨_,U,.inl ay,U,L,T.old λ_ _=>U⟩
def X8{i p s}(E:A 1 i)(G:Fit prog l)(H:an.ok 24)(S:tI g A aqd)(h:aqd t f c)(Q:t<1073741824)(B:fj u g cb xb f c.late m)(d:c.S[i]? =Z s)(n:s.aw=aa)(J:m.ps[i]? =Z p)(aqi z)(hy:dy aqi)(K:dy z):
  dX prog 24 #[pt cb,pt p,I aqi,I z] u λe N=>e=aG (.bool M)/\gL g aqd (t+1) cb xb m.ps N:=by
 refine dX.lift G H (λe u a h=>⟨h.1,h.2.tp a⟩) (λe u h=>⟨_,h.1⟩) λa=>?_
 let⟨L,T⟩:=B.tp a
 by_cases o:c.ck<60000
 let⟨_,q,k,j⟩:=S.aC h d n
 let⟨hR,_⟩:=S.run h
 have P:=hR.core.small;have R:=(S.dO h).2.2.2.1;refine(RY cb xb g f c.late L m (u.tp a) T i p q s k aqi z hy K S.is o d J j Y (hR.core.cl q k j.at_).1.aN j4).mono ?_;rintro e O ⟨b,w,v,r,rfl,x,C⟩;obtain⟨rfl,D⟩:=S.ask E h d n j o x;exact⟨U,w,v,D,C⟩;refine(RZ cb xb g f c.late L m (u.tp a) T p aqi z j4).mono ?_;rintro e O ⟨rfl,rfl⟩;exact⟨U,f,_,S.stay h,L,m,T,qD _⟩
def Y6{i p s}(z:A 3 i)(C:Fit prog l)(E:an.ok 27)(S:tI g A aqd)(h:aqd t f c)(B:fj u g cb xb f c.late m)(j:c.S[i]? =Z s)(n:s.aw=aa)(G:m.ps[i]? =Z p):
  dX prog 27 #[pt cb,pt p] u λe J=>e=aG (.bool M)/\gL g aqd (t+1) cb xb m.ps J:=by
 refine dX.lift C E (λe u d h=>⟨h.1,h.2.tp d⟩) (λe u h=>⟨_,h.1⟩) λd=>?_
 let⟨L,T⟩:=B.tp d
 let⟨D,b,k,a⟩:=S.aC h j n
 let⟨hR,K,_⟩:=S.run h
 have R:=hR.core.small
 let⟨H,q,r,v,w⟩:=S.take z h j n a
 have N:=(hR.core.cl b k a.at_).1.out;have Q:=(hR.core.cl b k a.at_).2.2;have P:=hR.core.prom b;have O:=hR.core.g.ou;refine(Zh cb xb g f c.late L m (u.tp d) T i p b s k j G D a Y (hR.take a.at_ _).1.core.stay H q r v (S.wo (c:=c) h) Y (by have:=(S.dO h).2.1;show 0<=c.now+1;omega)).mono ?_;rintro e V ⟨rfl,o,x⟩;exact⟨U,_,_,w,o,m,x,qD _⟩
def Y3{i p s}(V:A 5 i)(X:Fit prog l)(af:an.ok 56)(S:tI g A aqd)(h:aqd t f c)(B:fj u g cb xb f c.late m)(x:c.S[i]? =Z s)(z:s.aw=aa)(hp:m.ps[i]? =Z p):
  dX prog 56 #[pt cb,pt p] u λe u'=>e=aG (.bool M)/\gL g aqd (t+1) cb xb m.ps u':=by
 refine dX.lift X af (λe u r h=>⟨h.1,h.2.tp r⟩) (λe u h=>⟨_,h.1⟩) λr=>?_
 let⟨L,T⟩:=B.tp r
 let⟨_,j,k,q⟩:=S.aC h x z
 have aL:=(S.run h).1.core.small
 let⟨O,v⟩:=S.leave V h x z q
 apply(akm cb xb g f (f.oX j k) c.late L m (u.tp r) T i p s x hp λW L w=>(by
      obtain⟨l,C,hC,hO⟩:=w.sat q.at_;have G:=aX (Mw w Y q C);have H:Hid (∀b,aK W b->Calls prog 75 #[jp l.c] b λe d=>e=aG (.tuple #[])/\∃a,aE d (f.at j k.jd) xb a/\bE W L d a):=λb o=>by refine(abu (w.below o) q.at_ C).mono ?_;rintro e d ⟨rfl,a,n,g2⟩;exact⟨U,a,n,bE.trans ⟨λ_ _=>U,.below o⟩ g2⟩
      have E:Hid (∀b,(∃a,aE b (f.at j k.jd) xb a/\bE W L b a)->Calls prog 64 #[jp xb] b λe d=>e=aG (.tuple #[])/\∃a,aE d (f.oX j k) xb a/\bE W L d a):=λb ⟨J,b1,N⟩=>by
       have e:(f.at j k.jd).K.length=f.K.length:=by simp[Fx.at]
       refine(Mx b _ xb J b1 O (by rw[e];exact Y)).mono ?_;rintro e' d ⟨rfl,a,n,g2⟩;rw[e]at n;exact⟨U,a,n,N.trans g2⟩
      generalize f.oX j k=R at*;generalize f.at j k.jd=R1 at*;generalize l.c=c at*;go_enter func39,ntmps39;go_wp2_with (first|(go_at_call 68;refine G.mono ?_;rintro e w1 ⟨rfl,o⟩)|(go_at_call 75;refine(H _ o).mono ?_;rintro e w2 ⟨rfl,P⟩;have D:=aX P)|(go_at_call 64;refine(E _ D).mono ?_;rintro e w3 ⟨rfl,v⟩));go_ret;exact⟨U,v⟩)).mono
 rintro e d ⟨rfl,a,Q⟩;exact⟨U,_,_,v,a,m,Q,qD _⟩
variable [oM]
def Y7(k:A 2 0)(G:CR l)(S:tI g A aqd)(h:aqd t f c)(n:t<1073741824)(B:fj u g cb xb f c.late m):dX prog 26 #[pt xb] u λe a=>e=aG (.tuple #[])/\gL g aqd (t+1) cb xb m.ps a:=by let⟨L,T⟩:=B;refine(T.fx.ticks bld G (S.run h).1 (by have:=(S.dO h).1;omega)).mono ?_;rintro e a ⟨rfl,p,o,d,i⟩;let⟨b,j⟩:=T.go d i;exact⟨U,_,_,S.tick k h n,b,m,j,qD _⟩
end
end
section
variable [an] {P:Program} {l:av aZ} {Q:Exit->Act->aq->Prop} {a:Act} {u:aq} {ops:aF Oper} {i n:Nat} {rest:av Nat} {Lf:aZ->av Nat} {f0:aZ} {L:av (Nat×aB)} {ty:aY} {ps:String} {af:aF Edge} {gd:aV (Nat×Bool)}
def FX.sj{c:Code}(J:Act->aq->Prop)(b:FX Lf f0 P (kv c) (Exit.then J Q) a u)(d:∀a u,J a u->FX Lf f0 P (dg c) Q a u)(hc:XQ c=M:=by kernel_rfl):FX Lf f0 P c Q a u:=FX.sq (b.mono λe a u h=>by cases e<;>first|exact d a u h|exact h) hc
def FE.sa{t e f b:Nat}{x vs:aF aB}{T:aY}(E:Fa n a L)(B:u.heap[b]? =Z (au x T (0,0)))(c:∀g:aq,g.heap[b]? =Z (au vs T (0,0))->(∀d,d≠b->g.heap[d]? =u.heap[d]?)->g.heap.size=u.heap.size->FO Lf f0 P ops Q rest a g)(q:ops[i]? =Z ⟨aj,.store t (.tmp e)<|.tmp f,ty,ps,af,gd⟩:=by rfl) (r:lk L e=Z (aQ b):=by rfl) (hv:lk L f=Z (.agg vs):=by rfl) (v:x.size=vs.size:=by rfl) (p:(P.info? t).map (·.size)=Z vs.size:=by kernel_rfl) (m:vs.all (·.oneCell')=M:=by simp[zS]) (s:(iu ops L gd&&iH ops n gd)=M:=by rfl) (hc:mE (Lf f0) 1 0 L (.store t (.tmp e)<|.tmp f)=M:=by rfl) (o:Fit P l:=by assumption):FO Lf f0 P ops Q (i::rest) a u:=by
 have j:gS L (.tmp e)=aQ b:=by show(lk L e).getD y=_;rw[r];rfl
 have k:gS L (.tmp f)=.agg vs:=by show(lk L f).getD y=_;rw[hv];rfl
 refine FE.vo E (u.setRow b vs) (c _ (setRow_heap u b x vs T _ B) (λd h=>setRow_other u b d vs h)<|setRow_size ..) q s U hc (λw=>?_) o;have:=run_storeVar_row (P:=P) (u.tp w) b T t x vs B p v m;unfold execOp;simp only[j,k,Instr.storeAt,Instr.sureAddr,Sem.run_bind,Sem.run_pure,Result.andThen,this];rfl
def FE.l1{t k d:Nat}{v:aB}{ad:iL}(E:Fa n a L)(B:u.cell? ad=Z v)(c:∀b,iD a b d v->Fa n b ((d,v)::L)->FO Lf f0 P ops Q rest b u)(f:ops[i]? =Z ⟨Z d,.load t<|.tmp k,ty,ps,af,gd⟩:=by rfl) (m:lk L k=Z (.pointer<|Z ad):=by rfl) (g:(iu ops L gd&&iH ops n gd)=M:=by rfl) (hc:mE (Lf f0) n d L (.load t<|.tmp k)=M:=by rfl)
  (hr:∀w:aq,w.cell? ad=Z v->(execOp (gS L) ⟨Z d,.load t<|.tmp k,ty,ps,af,gd⟩).run P w=.ok (.value v) w:=by(intro w j;go_simp)) (e:Fit P l:=by assumption):FO Lf f0 P ops Q (i::rest) a u:=
 FE.ow E c f g U hc (λh=>hr _ (show(u.tp h).cell? ad=_ from B)) e
end
section
end
section
attribute [local go_sem] cz cE Dj Dl vB
open Go.ConcR (Payload)
structure wH[an](l:av aZ):Prop where
 k:CQ l
 x:CR l
 o:∀f,f∈[30,31,41,55,24,27,56]->an.ok f/\an.known f
 kI:an.known 26
abbrev stA(kd x b z:Int):aF aB:=#[I kd,I x,I b,I z]
section
variable [an] {l:av aZ} {Q:Exit->Act->aq->Prop} {a:Act} {u:aq} {ops:aF Oper} {i n d:Nat} {rest:av Nat} {Lf:aZ->av Nat} {f0:aZ} {L:av (Nat×aB)} {ty:aY} {ps:String} {af:aF Edge} {gd:aV (Nat×Bool)}
def FE.lst{kd x o z:Int}{b k:Nat}(q:Fit prog l)(E:Fa n a L)(B:u.heap[b]? =Z (au (stA kd x o z) 46 (0,0)))(c:∀p,iD a p d (.agg<|stA kd x o z)->Fa n p ((d,.agg<|stA kd x o z)::L)->FO Lf f0 prog ops Q rest p u)(h:ops[i]? =Z ⟨Z d,.load 46<|.tmp k,ty,ps,af,gd⟩:=by rfl) (r:lk L k=Z (pt b):=by rfl) (s:(iu ops L gd&&iH ops n gd)=M:=by rfl) (hc:mE (Lf f0) n d L (.load 46<|.tmp k)=M:=by rfl):FO Lf f0 prog ops Q (i::rest) a u:=by
 refine FE.ow E c h s U hc (λj=>?_) q;have e:gS L (.tmp k)=pt b:=by show(lk L k).getD y=_;rw[r];rfl
 have h:(u.tp j).heap[b]? =_:=B;have v:=aJ (u.tp j) b 0 (I kd) h;have w:=aJ (u.tp j) b 1 (I x) h;have C:=aJ (u.tp j) b 2 (I o) h;have D:=aJ (u.tp j) b 3 (I z) h;go_simp
end
section
variable [an] [oM] {l:av aZ} {u:aq} {g:Cf} {cb xb:Nat} {f:Fx} {c:Cw} {m:Cm} {t:Nat} {A:Int->Nat->Prop} {aqd:Nat->Fx->Cw->Prop}
def Tn(G:wH l)(S:tI g A aqd)(h:aqd t f c)(J:t<1073741824)(B:fj u g cb xb f c m)(kd x k z:Int)(hx:dy x)(hy:dy k)(hz:dy z)(H:(kd=2->A 2 0)/\∀i:Nat,(i:Int)=eX x c.S.length->i<c.S.length->kd=1\/kd=3\/kd=5->A kd i):
  iT dR prog 22 #[pt cb,.agg<|stA kd x k z] u λe u'=>e=aG (.bool M)/\gL g aqd (t+1) cb xb m.ps u':=by
 have r:=G.x.fit;have Va:=(S.dO h).2.1;obtain⟨V,T⟩:=B;have aX:cb<u.heap.size:=(bf.1 T.cr).1;have K:=T.below ((Below.refl _ u).alloc (aR _)<|au (stA kd x k z) 46);have yI:(u.alloc<|au (stA kd x k z) 46).heap[u.heap.size]? =Z (au (stA kd x k z) 46 (0,0)):=new1 U;refine iT.AU 60 func22 λa E=>?_
 have fin:∀(a:Act) (u:aq) (L:av (Nat×aB)),Fa 60 a ((4,.bool M)::L)->gL g aqd (t+1) cb xb m.ps u->Exit.ret=.ret/\a.defers=[]/\∃v,(results f22 a.tmps).run prog u=.ok v u/\(Ending.returned v=aG (.bool M)/\gL g aqd (t+1) cb xb m.ps u):=λa u L E b=>by refine⟨U,E.defers,.bool M,?_,U,b⟩;have D:=ev (E.at_ 4 _ U);simp[results,results22,go_sem,D]
 refine FX.sq<|FX.reg [0,1] ?_;refine FE.nw (v:=pt u.heap.size) E (u.alloc<|au (stA kd x k z) 46) (hr:=λτ=>by go_simp;rfl) λa _ E=>?_;refine FE.ow E λa _ E=>GO.nil ?_;generalize u.alloc (au (stA kd x k z) 46)=u1 at*;generalize u.heap.size=w at*
 replace E:Fa 60 a [(0,pt cb),(3,pt w)]:=E.to
 have C:=K.cr;refine FX.sq<|FX.reg [0,1,2,3,4,5,6,7] ?_
 iterate 3 refine FE.ow E λa _ E=>?_
 refine FE.lc E C λa _ E=>?_;refine FE.ar E λa _ E=>?_
 iterate 2 refine FE.ow E λa _ E=>?_
 refine FE.st E C λR X D=>GO.nil ?_;have W:bz R g cb xb f c.late V m:=K.box U U X D;have q:R.heap[w]? =Z (au (stA kd x k z) 46 (0,0)):=(D w Y).trans yI;have B:fj R g cb xb f c.late m:=⟨V,W⟩;clear T K W yI C X D
 replace E:Fa 60 a [(0,pt cb),(3,pt w)]:=E.to
 have C:=B.at;refine FX.sq<|FX.sq<|FX.reg [0,1] ?_;refine FE.ow E λa _ E=>?_;refine FE.lc E q λa _ E=>GO.nil ?_;refine FX.bk 0<|FX.sq<|FX.reg [0,1] ?_
 by_cases k2:kd=2
 ·subst k2;iterate 1 refine FE.ow (v:=.bool M) E λa _ E=>?_
  refine FE.ow E λa _ E=>GO.nil ?_;refine FX.cT E<|FX.sq<|FX.reg [0,1,2,3,4] ?_;iterate 3 refine FE.ow E λa _ E=>?_
  refine FE.lc E C λa _ E=>?_;refine FE.cx E G.kI<|(Y7 (H.1 U) G.x S h J B).mono ?_;rintro e j ⟨rfl,b⟩;refine⟨_,U,λa _ E=>GO.nil ?_⟩;refine FX.sq<|FX.reg [0] ?_;refine FE.ow E λa _ E=>GO.nil ?_;exact akZ
 have b2:(kd==2)=aa:=by simpa using k2
 refine FE.ow (v:=.bool aa) E λa _ E=>?_;refine FE.ow E λa _ E=>GO.nil ?_;refine FX.cF E<|FX.sq<|FX.reg [0,1] ?_
 by_cases k4:kd=4
 ·subst k4;refine FE.ow (v:=.bool M) E λa _ E=>?_;refine FE.ow E λa _ E=>GO.nil ?_;refine FX.cT E<|FX.sq<|FX.reg [0,1,2,3] ?_;refine FE.ow E λa _ E=>?_;refine FE.lst r E q λa _ E=>?_;refine FE.cx E (G.o _ aM).2 ((Y2 r (G.o _ aM).1 S h B 4 x k z hx hy hz).mono ?_);rintro e j ⟨rfl,b⟩;refine⟨_,U,λa _ E=>?_⟩;refine FE.ow E λa _ E=>GO.nil ?_;exact akZ
 have b4:(kd==4)=aa:=by simpa using k4
 refine FE.ow (v:=.bool aa) E λa _ E=>?_;refine FE.ow E λa _ E=>GO.nil ?_;refine FX.cF E<|FX.sq<|FX.reg [0,1] ?_
 by_cases k6:kd=6
 ·subst k6;refine FE.ow (v:=.bool M) E λa _ E=>?_;refine FE.ow E λa _ E=>GO.nil ?_;refine FX.cT E<|FX.sq<|FX.reg [0,1,2,3,4] ?_;iterate 2 refine FE.ow E λa _ E=>?_
  refine FE.lc E q λa _ E=>?_;refine FE.cx E (G.o _ aM).2 ((Y1 r (G.o _ aM).1 S h J B k hy).mono ?_);rintro e j ⟨rfl,b⟩;refine⟨_,U,λa _ E=>?_⟩;refine FE.ow E λa _ E=>GO.nil ?_;exact akZ
 have b6:(kd==6)=aa:=by simpa using k6
 refine FE.ow (v:=.bool aa) E λa _ E=>?_;refine FE.ow E λa _ E=>GO.nil ?_;refine FX.cF E<|FX.sk ?_
 replace E:Fa 60 a [(0,pt cb),(3,pt w)]:=E.to
 refine FX.sq<|FX.reg [0,1,2,3,4] ?_
 iterate 2 refine FE.ow E λa _ E=>?_
 refine FE.lc E q λa _ E=>?_;refine FE.cx E (G.o _ aM).2 ((Y5 r (G.o _ aM).1 S h J B x hx).mono ?_);rintro e j ⟨v,rfl,hv,hh,B⟩;rw[<-hh]at q;clear hh C;refine⟨_,U,λa _ E=>?_⟩;rcases hv with rfl|⟨i,p,s,rfl,b,N,O,P⟩
 ·refine FE.ow E λa _ E=>GO.nil ?_;refine FX.sq<|FX.sq<|FX.reg [0,1] ?_;refine FE.ow E λa _ E=>?_;refine FE.ow (v:=.bool M) E λa _ E=>GO.nil ?_;refine FX.cT E<|FX.sq<|FX.reg [0] ?_;refine FE.ow E λa _ E=>GO.nil ?_;exact FX.rt<|fin a j _ E ⟨f,_,S.stay h,B.SV⟩
 refine FE.ow E λa _ E=>GO.nil ?_;refine FX.sq<|FX.sq<|FX.reg [0,1] ?_;refine FE.ow E λa _ E=>?_;refine FE.ow (v:=.bool aa) E λa _ E=>GO.nil ?_;refine FX.cF E<|FX.sk ?_
 replace E:Fa 60 a [(0,pt cb),(3,pt w),(5,pt p)]:=E.to
 refine FX.sq<|FX.sq<|FX.reg [0,1] ?_;refine FE.ow E λa _ E=>?_;refine FE.lc E q λa _ E=>GO.nil ?_;refine FX.bk 1<|FX.sq<|FX.reg [0,1] ?_
 by_cases k1:kd=1
 ·subst k1;refine FE.ow (v:=.bool M) E λa _ E=>?_;refine FE.ow E λa _ E=>GO.nil ?_;refine FX.cT E<|FX.sq<|FX.reg [0,1,2,3,4,5,6,7] ?_;iterate 3 refine FE.ow E λa _ E=>?_
  refine FE.lc E q λa _ E=>?_;refine FE.ow E λa _ E=>?_;refine FE.lc E q λa _ E=>?_;refine FE.cx E (G.o _ aM).2 ((X8 (H.2 i P (bY.1 b).1 (aA U)) r (G.o _ aM).1 S h J B b N O k z hy hz).mono ?_);rintro e j ⟨rfl,b⟩;refine⟨_,U,λa _ E=>?_⟩;refine FE.ow E λa _ E=>GO.nil ?_;exact akZ
 have b1:(kd==1)=aa:=by simpa using k1
 refine FE.ow (v:=.bool aa) E λa _ E=>?_;refine FE.ow E λa _ E=>GO.nil ?_;refine FX.cF E<|FX.sq<|FX.reg [0,1] ?_
 by_cases k3:kd=3
 ·subst k3;refine FE.ow (v:=.bool M) E λa _ E=>?_;refine FE.ow E λa _ E=>GO.nil ?_;refine FX.cT E<|FX.sq<|FX.reg [0,1,2,3] ?_;iterate 2 refine FE.ow E λa _ E=>?_
  refine FE.cx E (G.o _ aM).2 ((Y6 (H.2 i P (bY.1 b).1 (az<|aA U)) r (G.o _ aM).1 S h B b N O).mono ?_);rintro e j ⟨rfl,b⟩;refine⟨_,U,λa _ E=>?_⟩;refine FE.ow E λa _ E=>GO.nil ?_;exact akZ
 have b3:(kd==3)=aa:=by simpa using k3
 refine FE.ow (v:=.bool aa) E λa _ E=>?_;refine FE.ow E λa _ E=>GO.nil ?_;refine FX.cF E<|FX.sq<|FX.reg [0,1] ?_
 by_cases k5:kd=5
 ·subst k5;refine FE.ow (v:=.bool M) E λa _ E=>?_;refine FE.ow E λa _ E=>GO.nil ?_;refine FX.cT E<|FX.sq<|FX.reg [0,1,2,3] ?_;iterate 2 refine FE.ow E λa _ E=>?_
  refine FE.cx E (G.o _ aM).2 ((Y3 (H.2 i P (bY.1 b).1 (az<|az U)) r (G.o _ aM).1 S h B b N O).mono ?_);rintro e j ⟨rfl,b⟩;refine⟨_,U,λa _ E=>?_⟩;refine FE.ow E λa _ E=>GO.nil ?_;exact akZ
 have b5:(kd==5)=aa:=by simpa using k5
 refine FE.ow (v:=.bool aa) E λa _ E=>?_;refine FE.ow E λa _ E=>GO.nil ?_;refine FX.cF E<|FX.sk ?_;refine FX.sq<|FX.reg [0] ?_;refine FE.ow E λa _ E=>GO.nil ?_;exact FX.rt<|fin a j _ E ⟨f,_,S.stay h,B.SV⟩
end
def leftOf(n k:Nat)(a:Act):Nat:=n-(match a.eval (.tmp k)with|.int _ x=>x.toNat|_=>0)
def tP{a n k}{m:Nat}(h:a.eval (.tmp k)=I (m:Int)):leftOf n k a=n-m:=by unfold leftOf;rw[h];simp
def wN[an](ad:aV iL)(len:Nat):Prop:=len=0\/∃(b off:Nat) (c:Obj) (z:Nat->Nat->Int),ad=Z ⟨b,off,aj⟩/\an.tY b=Z c/\∀i,i<len->∀j,j<4->dy (z i j)/\∀w:aq,w.heap[b]? =Z c->w.cell? (F b<|off+i*4+j)=Z (I<|z i j)
section
variable [an] {Q:Exit->Act->aq->Prop} {a:Act} {u:aq} {ops:aF Oper} {i n d k:Nat} {rest:av Nat} {Lf:aZ->av Nat} {f0:aZ} {L:av (Nat×aB)} {ty:aY} {ps:String} {af:aF Edge} {gd:aV (Nat×Bool)}
def FE.sg{ad:iL}{t x b:Nat}{e:Obj}{vs:aF aB}(z:an.tY b=Z e)(l:∀w,(isAgg t).run prog w=.ok M w)(A:∀w,(sizeOf t).run prog w=.ok x w)(B:∀w g,(isAgg t).events prog w g=g)(E:Fa n a L)(m:ad.block=b)(r:vs.size=x)(hc:∀w:aq,w.heap[b]? =Z e->∀j,(h:j<vs.size)->w.cell? (ad.add j)=Z vs[j])(hr:∀w:aq,w.heap[b]? =Z e->(loadCells ad x).run prog w=.ok vs w)(s:∀C,VR C (.agg vs)<|.agg vs)(c:∀f,Fa n f ((d,.agg vs)::L)->FO Lf f0 prog ops Q rest f u)
  (q:ops[i]? =Z ⟨Z d,.load t<|.tmp k,ty,ps,af,gd⟩:=by rfl) (hv:lk L k=Z (.pointer<|Z ad):=by rfl) (v:(iu ops L gd&&iH ops n gd)=M:=by rfl) (p:mW [] n d []=M:=by rfl):FO Lf f0 prog ops Q (i::rest) a u:=
 FO.see z l A B q (E.wt (o:=⟨Z d,_,ty,ps,af,gd⟩) v) U U (E.at_ k _ hv) m r hc hr s (c _<|E.put _<|Au p)
def Yp(kd x aqi z ρ):VR ρ (.agg<|stA kd x aqi z) (.agg<|stA kd x aqi z):=by intro g _;simp[stA,rv]
def FE.stp{f tq:Nat}{m:Obj}{tz:Nat->Int}(q:an.tY f=Z m)(g:∀j,j<4->dy (tz j)/\∀w:aq,w.heap[f]? =Z m->w.cell? (F f<|tq+j)=Z (I<|tz j))(E:Fa n a L)(c:∀l,Fa n l ((d,.agg<|stA (tz 0) (tz 1) (tz 2)<|tz 3)::L)->FO Lf f0 prog ops Q rest l u)
  (p:ops[i]? =Z ⟨Z d,.load 46<|.tmp k,ty,ps,af,gd⟩:=by rfl) (hv:lk L k=Z (.pointer<|Z<|F f tq):=by rfl) (b:(iu ops L gd&&iH ops n gd)=M:=by rfl) (o:mW [] n d []=M:=by rfl):FO Lf f0 prog ops Q (i::rest) a u:=by
 refine FE.sg (t:=46) (vs:=stA (tz 0) (tz 1) (tz 2)<|tz 3) (x:=4) q (λw=>by go_simp) (λw=>by go_simp) (λw A=>by go_simp) E U U (λw b j h=>?_) (λw b=>?_) (Yp _ _ _ _) c p hv b o;have e:(⟨f,tq,aj⟩:iL).add j=⟨f,tq+j,aj⟩:=by unfold Addr.add;split<;>simp_all
 rw[e]
 match j,h with
 |0,_=>exact(g 0 aM).2 w b
 |1,_=>exact(g 1 aM).2 w b
 |2,_=>exact(g 2 aM).2 w b
 |3,_=>exact(g 3 aM).2 w b
 |k+4,h=>exact absurd h ay
 have r:w.cell? (F f tq)=Z (I<|tz 0):=(g 0 aM).2 w b;have s:w.cell? (F f<|tq+1)=Z (I<|tz 1):=(g 1 aM).2 w b;have v:w.cell? (F f<|tq+2)=Z (I<|tz 2):=(g 2 aM).2 w b;have z:w.cell? (F f<|tq+3)=Z (I<|tz 3):=(g 3 aM).2 w b;go_simp
end
def Xs[an](x):results f22 x=results f22 (dU (dR 22) x):=by have h:(dU (dR 22) x).getD 4 y=x.getD 4 y:=zm (a:=⟨x,[]⟩) (i:=4) aM;simp only[results,results22,BW,vU,BV,h]
def Tl[an](cb kd x aqi z ρ)(c:VR ρ (pt cb) (pt cb)):∀(i:Nat) (v:aB),(Frame.enter prog 22 #[pt cb,.agg<|stA kd x aqi z] .normal).tmps[i]? =Z v->i∉dR 22->VR ρ v v:=
 GC func22 (body:=nS f22) aW λi v h b=>by
  match i,b with
  |0,_=>simp at h;subst h;exact c
  |1,_=>simp at h;subst h;exact Yp _ _ _ _ _
  |n+2,_=>simp at h
section
variable [an] [oM]
end
abbrev nV(wt:Nat->Int)(n:Nat):Cw:=⟨(dA n).map λi=>⟨wt i,⟨#[]⟩,aa⟩,[],0,1,0⟩
def adk(wt n):gU (nV wt n).S=n:=by unfold gU;rw[Fg.2 λs a=>by obtain⟨i,_,rfl⟩:=jY.1 a;rfl];simp
def Y8(wt n k):(⟨(nV wt n).S++[⟨k,⟨#[]⟩,aa⟩],[],0,1,0⟩:Cw)=nV (wtO wt n k) (n+1):=by
 have e:(dA n).map (λi=>(⟨wtO wt n k i,⟨#[]⟩,aa⟩:Sl))=(dA n).map λi=>⟨wt i,⟨#[]⟩,aa⟩:=rN λi a=>by grind
 show _=(⟨(dA<|n+1).map λi=>(⟨wtO wt n k i,⟨#[]⟩,aa⟩:Sl),[],0,1,0⟩:Cw);rw[uB,sV,e];simp
def Fx.Host.ku{f:Fx}{g wt n k}(h:f.Host g wt n)(b:(n:Int)<g.cl)(a:1<=k/\k<=4):(f.ku n k).Host g (wtO wt n k) (n+1):=by
 have c:=(h.send b a).2;have e:(f.jV n k).send n (Ck.fresh f.bF k f.g.bu) gm=(f.ku n k,0):=by unfold Fx.send;rw[aI acu,aI (show ¬1024<(Ck.fresh f.bF k f.g.bu).aN.size+gm.size from(by decide:¬1024<(⟨#[]⟩:ByteArray).size+gm.size))];rfl
 rwa [e]at c
def agh[an](x):results f15 x=results f15 (dU (dR 15) x):=by have h:(dU (dR 15) x).getD 2 y=x.getD 2 y:=zm (L:=dR 15) (a:=⟨x,[]⟩) (i:=2) aM;simp only[results,results15,BW,vU,BV,h]
section
variable [an] {l:av aZ} {u:aq} {al:aV iL} {ll cl:Nat}
def fj.form{g cb xb f c m}(B:fj u g cb xb f c m):∃a k,m.lv=.slice a c.S.length k:=by obtain⟨L,T⟩:=B;exact gP T.gV
def Q4(ad len cap ρ i v)(h:(Frame.enter prog 15 #[.slice ad len cap] .normal).tmps[i]? =Z v)(a:i∉dR 15):VR ρ v v:=
 Di func15 (body:=nS f15) aW (λi v h a ρ=>by
  match i,a with
  |0,a=>exact absurd aM a
  |n+1,_=>simp at h) ρ i v h a
def Y4{g}(wt)(r:Fit prog l)(v:an.ok 30)(t:sB g.sz g.cl g.qu g.mx g.qn g.rt g.bu g.wk g.ou=M):
  dX prog 30 #[.agg<|oU g] u λe w=>∃n x,e=aG (pt n)/\fj w g n x (Fx.new g) (nV wt 0) ⟨.slice aj 0 0,.slice aj 0 0,[],[]⟩:=by
 refine dX.lift r v (λe u m ⟨a,c,d,f⟩=>⟨a,c,d,f.tp m⟩) (λe u ⟨a,c,h,_⟩=>⟨_,h⟩) λm=>?_;refine(K6 g t<|u.tp m).mono ?_;rintro e C ⟨a,c,L,rfl,d,f,z,o,A,q,B⟩;exact⟨a,c,U,L,f,d,qH _ _ _ _,qH _ _ _ _,λi p s k=>(by cases k),λi p s k=>(by cases k),⟨xS,xS⟩,⟨o,λb j=>(by cases j),λb j=>(by cases j)⟩,q⟩
def X9{g cb xb n}{f:Fx}{wt m}(v:Fit prog l)(C:an.ok 31)(h:f.Host g wt n)(p:(n:Int)<g.cl)(B:fj u g cb xb f (nV wt n) m)(x)(D:dy x):
  dX prog 31 #[pt cb,I x] u λe E=>e=aG (.bool M)/\∃c d b,c.Host g d (n+1)/\fj E g cb xb c (nV d<|n+1) b:=by
 refine dX.lift v C (λe u j ⟨a,c,d,b,r,t⟩=>⟨a,c,d,b,r,t.tp j⟩) (λe u h=>⟨_,h.1⟩) λj=>?_;obtain⟨L,T⟩:=B.tp j;have G:=h.rest.core.small;have w:=h.rest.core.g.cl;rw[h.gg]at w;have A:(nV wt n).S.length=n:=ay;refine(YU cb xb g f (nV wt n) L m (u.tp j) T x D Y h.stop n (h.free p) (λi z=>by rw[h.uX i z];simp) Y (by rw[adk];exact p) (by rw[A];exact h.bF) λs k o=>?_).mono ?_;have:=(h.rest.core.lI s k o).2;omega;rintro e H ⟨rfl,k,o,q,b,a,_⟩;have a:=a;rw[Y8]at a;exact⟨U,_,_,b,h.ku p o,q,a⟩
def BeL(al:aV iL)(ll cl b xb N:Nat)(g:Cf)(a:Act)(u:aq):Prop:=∃(i:Nat) (f:Fx) (wt:Nat->Int) (m:Cm),Fa 45 a [(0,.slice al ll cl),(3,pt b),(4,I (N:Int)),(5,I (i:Int))]/\i<=N/\f.Host g wt i/\fj u g b xb f (nV wt i) m
def Q5(G:wH l)(w:ll<=cP)(hl:Af al ll):
  iT dR prog 15 #[.slice al ll cl] u λe W=>∃(b xb n:Nat) (g:Cf) (f:Fx) (wt:Nat->Int) (m:Cm),e=aG (pt b)/\g.Is/\f.Host g wt n/\1<=n/\(n:Int)<=g.cl/\fj W g b xb f (nV wt n) m:=by
 have C:=G.x.fit;have ah:ll<=9223372036854775807:=w;refine iT.AU 45 func15 λa E=>?_;refine FX.sq<|FX.reg [0] ?_;refine FE.ow E λa _ E=>GO.nil ?_;refine FX.sq<|FX.reg [0,1,2,3] ?_;refine FE.bl E λa _ E=>?_;refine FE.cf E func28 G.k.kC agi (V7 al ll cl)<|(V8 G.k al ll cl w hl).mono ?_;rintro e u2 ⟨g,rfl,D⟩;refine⟨_,U,λa _ E=>?_⟩;have hI:=Cf.Is.WI D;refine FE.cx E (G.o _ aM).2 ((Y4 (λ_=>0) C (G.o _ aM).1 D).mono ?_);rintro e u ⟨b,xb,rfl,B⟩;refine⟨_,U,λa _ E=>?_⟩;refine FE.ow E λa _ E=>GO.nil ?_;refine FX.sq<|FX.sq<|FX.reg [0,1] ?_;refine FE.ow E λa _ E=>?_;refine FE.ow (v:=.bool aa) E λa _ E=>GO.nil ?_;refine FX.cF E<|FX.sk ?_
 replace E:Fa 45 a [(0,.slice al ll cl),(3,pt b)]:=E.to
 have X:=hI.cl;refine FX.sq<|FX.dr 10 9 (λi v=>match i with|0=>v=.slice al ll cl|1=>∃z,v=I z/\dy z|2=>v=pt b|3=>v=pt b|4=>v=pt b|5=>v=.pointer (Z<|F b 1)|6=>v=I g.cl|7=>∃r,v=I r/\0<=r/\r<g.cl|8=>∃r,v=I (1+r)/\0<=r/\r<g.cl|_=>True) E (λH q x R a is E h c=>?_) λH q a E hv=>?_
 ·have t:=(B.drew u.tape<|u.drawn+1).at;rw[<-q]at t;clear q;match x,R with
  |0,_=>exact FE.bl E<|dk c
  |1,_=>exact FE.raw G.k w hl (E.dd<|h 0 U) λz p s N _=>c p _ ⟨z,U,s⟩ N
  |2,_=>exact FE.ow E<|dk c
  |3,_=>exact FE.ow (E.dd<|h 2 U)<|dk c
  |4,_=>exact FE.ow (E.dd<|h 3 U)<|dk c
  |5,_=>exact FE.ow (E.dd<|h 4 U)<|dk c
  |6,_=>exact FE.lc (E.dd<|h 5 U) t<|dk c
  |7,_=>obtain⟨z,e,s⟩:=h 1 U;exact FE.tT G.k s ((E.add (d:=13) e).dd<|h 6 U) λr p hr N _=>c p _ ⟨r,U,hr⟩ N
  |8,_=>obtain⟨r,e,hr⟩:=h 7 U;exact FE.ar (E.add (d:=19) e) λp N _=>c p _ ⟨r,U,hr⟩ N
  |m+9,hm=>omega
 replace B:=B.drew u.tape (u.drawn+1)
 rw[<-q]at B;clear q;obtain⟨r,e,hr⟩:=hv 8 U;obtain⟨N,L⟩:∃N:Nat,1+r=(N:Int):=⟨(1+r).toNat,Y⟩;rw[L]at e
 replace E:=E.add (d:=20) e
 refine eP.one (j:=9) aW λis K=>FE.ow E λa _ E=>K a H (eP.none aW ?_);refine FX.sq<|FX.sq<|FX.reg [0] ?_;refine FE.ow E λa _ E=>GO.nil ?_;refine FX.bk 0<|FX.lp (BeL al ll cl b xb N g) (λa _=>leftOf N 5 a) ⟨0,_,λ_=>0,_,E.to,cO _,Fx.Host.new hI _,B⟩ ?_;rintro a u ⟨i,f,wt,m,E,hi,hF,B⟩;have P:=tP (n:=N) (E.at_ 5 _ U);refine FX.sq<|FX.sq<|FX.reg [0,1,2] ?_
 iterate 2 refine FE.ow E λa _ E=>?_
 by_cases Q:i<N
 ·have O:(i:Int)<(N:Int):=Y;refine FE.ow (v:=.bool M) E λa _ E=>GO.nil ?_;refine FX.cT E<|FX.sk ?_;refine FX.sq<|FX.bk 1<|FX.sq<|FX.reg [0,1,2,3,4,5,6] ?_;refine FE.ow E λa _ E=>?_;refine FE.bl E λa _ E=>?_;refine FE.ow E λa _ E=>?_;refine FE.ar E λa _ E=>?_;refine FE.raw G.k w hl E λz a s _ E=>?_;refine FE.cx E (G.o _ aM).2 ((X9 C (G.o _ aM).1 hF Y B z s).mono ?_);rintro e u ⟨rfl,f,wt,⟨V,wv,ps,qs⟩,hF,B⟩;refine⟨_,U,λa _ E=>?_⟩;refine FE.ow E λa _ E=>GO.nil ?_;obtain⟨T,lc,A⟩:=B.form;rw[show(nV wt<|i+1).S.length=i+1 by simp]at A;have A:V=.slice T (i+1) lc:=A;subst A;refine FX.sq<|FX.reg [0,1,2,3,4,5,6,7,8,9,10,11] ?_;refine FE.ow E λa _ E=>?_;refine FE.ow (v:=.bool aa) E λa _ E=>?_;iterate 4 refine FE.ow E λa _ E=>?_
  refine FE.lc E B.at λa _ E=>?_;refine FE.ln E λa _ E=>?_;refine FE.ow E λa _ E=>?_;refine FE.ar E λa _ E=>?_;refine FE.ow (v:=.bool aa) E (hr:=λτ=>by have Du:((i+1:Nat):Int)=(i:Int)+1:=ay;go_simp) λa _ E=>?_;refine FE.ow E λa _ E=>GO.nil ?_;refine FX.cF E<|FX.sk ?_;refine FX.reg [0,1,2] ?_;refine FE.ow E λa _ E=>?_;refine FE.ar E λa _ E=>?_;refine FE.ow E λa _ E=>GO.nil ?_;rw[show(i:Int)+1=((i+1:Nat):Int) by simp]at E;refine⟨⟨i+1,f,wt,_,E.to,Q,hF,B⟩,?_⟩;rw[P,tP (n:=N)<|E.at_ 5 _ U];omega
 have O:¬(i:Int)<(N:Int):=Y;refine FE.ow (v:=.bool aa) E λa _ E=>GO.nil ?_;refine FX.cF E<|FX.ex 0 ?_;refine FX.sq<|FX.reg [0,1] ?_;refine FE.ow E λa _ E=>?_;refine FE.ow E λa _ E=>GO.nil ?_;have e:i=N:=Y;subst e;refine FX.rt ⟨U,E.defers,pt b,?_,b,xb,i,g,f,wt,m,U,hI,hF,Y,Y,B⟩;simp[results,results15,go_sem,ev (E.at_ 2 _ U)]
end
end
section
variable {g:Cf} {r:Wi}
def Wi.Good.acc(h:r.Good g):accepted r.msg=M:=by have:=h.kd;simp[accepted];omega
def aaY{us s}(h:s.data.toList=[]):first g.sz g.mx 2 us s=(.zero,0):=by
 have a:s.size=0:=by show s.data.size=0;rw[<-lQ,h];rfl
 show mH g.sz g.mx us s=_;unfold mH;rw[aO Y]
end
def pg(W:av Wi)(j:Nat):bh:=match W[j]? with|some r=>r.msg|none=>bh.zero
def rz(W:av Wi)(j:Nat):av UInt8:=match W[j]? with|some r=>r.dV.data.toList|none=>[]
structure cK(g:Cf)(W:av Wi)(i:Nat)(jr:av Rq)(k:Ck)(un wq wf:av Nat)(ts:av Tk):Prop where
 ph:k.ph=2\/k.ph=0/\wq=[]/\wf=[]/\ts=[]
 aN:k.aN.data.toList=(if k.ph=0 then gm.data.toList else[])++un.flatMap (rz W)
 q:k.q.map (·.m)=wq.map (pg W)
 fl:jr.map (·.m)=wf.map (pg W)
 out:k.out.data.toList=ts.flatMap (iY W)
 tk:∀t∈ts,mU i W t
 nd:(un++wq++wf++ts.filterMap Tk.no).Nodup
 ok:∀j∈un++wq++wf++ts.filterMap Tk.no,∃r,W[j]? =Z r/\r.u=i/\r.Good g
 us:∀j∈un,(iW W j:Int)∉k.us
 lo:∀x∈k.us,∃(j:Nat) (a:Wi),W[j]? =Z a/\a.u=i/\(a.ck:Int)=x
 all:∀(j:Nat) r,W[j]? =Z r->r.u=i->r.bk= -1->j∈un++wq++wf++ts.filterMap Tk.no
def wO(g:Cf)(W:av Wi)(i:Nat)(jr:av Rq)(k:Ck):Prop:=∃un wq wf ts,cK g W i jr k un wq wf ts
def Dn{a e:Type}{l:av a}{f f':a->av e}(h:∀x∈l,f x=f' x):l.flatMap f=l.flatMap f':=by
 induction l with
 |nil=>rfl
 |cons x l c=>rw[pH,pH,h x fJ,c λd b=>h d (gC _ b)]
section
variable {g:Cf} {W W':av Wi} {i j:Nat} {jr:av Rq} {k:Ck} {un wq wf:av Nat} {ts:av Tk} {r:Wi}
def Da(h:W[j]? =Z r)(x:Wi):(W++[x])[j]? =Z r:=by grind
structure Alike(W W':av Wi)(j:Nat):Prop where
 msg:pg W' j=pg W j
 dV:rz W' j=rz W j
 ck:iW W' j=iW W j
def LF(h:W[j]? =Z r)(a:W'[j]? =Z r):Alike W W' j:=by refine⟨?_,?_,?_⟩;unfold pg;rw[h,a];unfold rz;rw[h,a];unfold iW;rw[h,a]
def Tw{t}(h:∀j,t.no=Z j->Alike W W' j):iY W' t=iY W t:=by
 match t with
 |.inl b=>rfl
 |.inr (j,e,x)=>show 82::e::(cu (iW W' j)++x)=82::e::(cu (iW W j)++x);rw[(h j U).ck]
def cK.keep(h:cK g W i jr k un wq wf ts)(n:∀(j:Nat) r,W[j]? =Z r->r.u=i->W'[j]? =Z r)(v:∀(j:Nat) r,W'[j]? =Z r->r.u=i->r.bk= -1->W[j]? =Z r):cK g W' i jr k un wq wf ts:=by
 have m:∀j∈un++wq++wf++ts.filterMap Tk.no,Alike W W' j:=λj a=>by let⟨r,c,d,f⟩:=h.ok j a;exact LF c<|n j r c d
 have m1:∀j∈un,Alike W W' j:=λj a=>m j D2;refine⟨h.ph,?_,?_,?_,?_,λt l=>?_,h.nd,λj a=>?_,λj a=>?_,λx w=>?_,λj r a p o=>h.all j r (v j r a p o) p o⟩;rw[h.aN]
 congr 1;exact Dn λj a=>(m1 j a).dV.symm;rw[h.q];exact rN λj a=>((λj a=>m j D2) j a).msg.symm;rw[h.fl];exact rN λj a=>((λj a=>m j D2) j a).msg.symm;rw[h.out];exact Dn λt l=>(Tw<|(λt l j a=>m j (Kq _<|sX.2 ⟨t,l,a⟩)) t l).symm;have:=h.tk t l;match t,this with
 |.inl b,c=>exact c
 |.inr (j,e,x),⟨r,c,d,f⟩=>exact⟨r,n j r c d,d,f⟩
 let⟨r,c,d,f⟩:=h.ok j a;exact⟨r,n j r c d,d,f⟩;rw[(m1 j a).ck];exact h.us j a;let⟨j,s,c,d,f⟩:=h.lo x w;exact⟨j,s,n j s c d,d,f⟩
def cK.other(h:cK g W i jr k un wq wf ts)(hr:r.u≠i):=h.keep (λj x a _=>Da a r) λj x a b _=>by rw[zH]at a;split at a;exact a;have:=jC a;rw[iz]at this;exact absurd (this▸b) hr
def RQ(W)(r:Wi):(W++[r])[W.length]? =Z r:=ay
def cK.send(h:cK g W i jr k un wq wf ts)(s:r.u=i)(o:r.Good g)(hc:∀(j:Nat) x,W[j]? =Z x->x.ck≠r.ck):cK g (W++[r]) i jr (k.send r.dV) (un++[W.length]) wq wf ts:=by
 have lt:∀j∈un++wq++wf++ts.filterMap Tk.no,j<W.length:=λj hj=>by let⟨x,a,_⟩:=h.ok j hj;exact(bY.1 a).1
 have m:∀j∈un++wq++wf++ts.filterMap Tk.no,Alike W (W++[r]) j:=λj hj=>by let⟨x,a,_⟩:=h.ok j hj;exact LF a<|Da a r
 have m1:∀j∈un,Alike W (W++[r]) j:=λj hj=>m j (by simp[hj]);have mem:∀j,j∈un++[W.length]++wq++wf++ts.filterMap Tk.no↔j=W.length\/j∈un++wq++wf++ts.filterMap Tk.no:=λj=>by grind
 refine⟨h.ph,?_,h.q.trans<|rN λj hj=>((λj hj=>m j (by simp[hj])) j hj).msg.symm,h.fl.trans<|rN λj hj=>((λj hj=>m j (by simp[hj])) j hj).msg.symm,h.out.trans<|Dn λt f=>(Tw<|(λt f j hj=>m j (Kq _<|sX.2 ⟨t,f,hj⟩)) t f).symm,λt f=>?_,?_,λj hj=>?_,λj hj=>?_,λx w=>?_,λj x hj v n=>?_⟩;show(k.aN++r.dV).data.toList=_;rw[zB,uh,h.aN,rL,lS]
 congr 1;rw[Dn λj hj=>(m1 j hj).dV.symm]
 congr 1;rw[Kk];unfold rz;rw[RQ]
 ·have:=h.tk t f;match t,this with
  |.inl b,a=>exact a
  |.inr (j,e,x),⟨l,a,c⟩=>exact⟨l,Da a r,c⟩
 have p:(un++[W.length]++wq++wf++ts.filterMap Tk.no).Perm (W.length::(un++wq++wf++ts.filterMap Tk.no)):=j4;rw[p.nodup_iff,vV];exact⟨λhm=>by have:=lt _ hm;omega,h.nd⟩;·rcases(mem j).1 hj with rfl|hj;exact⟨r,RQ W r,s,o⟩;let⟨x,a,c,d⟩:=h.ok j hj;exact⟨x,Da a r,c,d⟩
 show(iW (W++[r]) j:Int)∉k.us;rcases jg.1 hj with hj|hj;rw[(m1 j hj).ck];exact h.us j hj;rw[iz.1 hj];intro hm;let⟨z,l,a,c,d⟩:=h.lo _ hm;apply hc z l a;unfold iW at d;grind;·let⟨j,l,a,c,d⟩:=h.lo x w;exact⟨j,l,Da a r,c,d⟩
 rw[mem];rw[zH]at hj;split at hj;exact .inr<|h.all j x hj v n;rename_i C;grind
end
section
variable {g:Cf} {W:av Wi} {i j:Nat} {jr:av Rq} {k:Ck} {un wq wf:av Nat} {ts:av Tk} {r:Wi}
def Jw(h:W[j]? =Z r):rz W j=r.dV.data.toList:=by unfold rz;rw[h]
def We(h:W[j]? =Z r):pg W j=r.msg:=by unfold pg;rw[h]
def Gv(h:W[j]? =Z r):iW W j=r.ck:=by unfold iW;rw[h]
def cK.hear(h:cK g W i jr k (j::un) wq wf ts)(B:k.ph=2)(b:W[j]? =Z r)(wo:mA W):cK g W i jr (k.hear g (r.msg,(r.dV.size:Int))) un (wq++[j]) wf ts/\Aj k (k.hear g (r.msg,(r.dV.size:Int))):=by
 let⟨G,t,v,s⟩:=h.ok j ay;rw[b]at t;cases t;have p:=s.acc;have E:=s.kd;have l:after k.ph r.msg=k.ph:=by have z:¬r.kd=5:=Y;simp[after,z]
 have A:(k.hear g (r.msg,(r.dV.size:Int))).aN.data.toList=un.flatMap (rz W):=by have o:=h.aN;rw[aI Y,jZ,pH,Jw b]at o;show(k.aN.extract ((r.dV.size:Int)).toNat k.aN.size).data.toList=_;rw[Ke,AB,o];have D:r.dV.data.toList.length=r.dV.size:=lQ;rw[Kg Y,BR Y,jZ]
 have w:(k.hear g (r.msg,(r.dV.size:Int))).us=k.us++[(r.ck:Int)]:=by show(if accepted r.msg=M then k.us++[(r.ck:Int)]else k.us)=_;rw[aO p]
 have u:k.out++gM g r.msg=k.out:=by have:gM g r.msg=⟨#[]⟩:=U;rw[this];exact ByteArray.append_empty
 have f:(un++(wq++[j])++wf++ts.filterMap Tk.no).Perm (j::un++wq++wf++ts.filterMap Tk.no):=j4;refine⟨⟨.inl<|l.trans B,?_,?_,h.fl,?_,h.tk,f.nodup_iff.2 h.nd,λx a=>h.ok x (f.mem_iff.1 a),λx a=>?_,λx a=>?_,λx n h1 c d=>f.mem_iff.2 (h.all x n h1 c d)⟩,⟨U,U,U,U,U,U,u,l⟩⟩;rw[A,aI (by show ¬after k.ph r.msg=0;rw[l];omega)];rfl;show(if accepted r.msg=M then k.q++[⟨r.msg,-1⟩]else k.q).map (·.m)=_;rw[aO p,sV,sV,h.q];simp[We b];show(k.out++gM g r.msg).data.toList=_;rw[u];exact h.out;rw[w];intro hm;rcases jg.1 hm with h1|h1;exact h.us x (gC _ a) h1;let⟨n,c,d,_⟩:=h.ok x D2;have e:=iz.1 h1;rw[Gv c]at e;have C:=wo.two x j n r c b (d.trans v.symm) Y;subst C;have:=h.nd;grind;rw[w]at a;rcases jg.1 a with h1|h1;exact h.lo x h1;exact⟨j,r,b,v,(iz.1 h1).symm⟩
def cK.read(hI:g.Is)(wo:mA W):∀(n:Nat) (k:Ck) (un wq:av Nat),cK g W i jr k un wq wf ts->k.ph=2->∃d f,un=d++f/\cK g W i jr (Ck.read g n k) f (wq++d) wf ts/\Aj k (Ck.read g n k)
 |0,k,un,wq,h,a=>⟨[],un,U,by rw[lf];exact h,⟨U,U,U,U,U,U,U,U⟩⟩|n+1,k,un,wq,h,a=>by
  unfold Ck.read;have b:=h.aN;rw[aI Y,jZ]at b;split;rcases un with _|⟨j,un⟩;have e:first g.sz g.mx k.ph k.us k.aN=(.zero,0):=by rw[a];exact aaY b
  simp only[e];exact⟨[],[],U,by rw[lf];exact h,⟨U,U,U,U,U,U,U,U⟩⟩;let⟨r,c,u,p⟩:=h.ok j ay;have l:=h.us j fJ;rw[Gv c]at l;rw[pH,Jw c]at b;have e:first g.sz g.mx k.ph k.us k.aN=(r.msg,(r.dV.size:Int)):=by rw[a];exact Ub k.us hI p (wo.one j r c).1 l b
  have v:=ED r;let⟨q,m⟩:=h.hear a c wo;simp only[e];rw[aI Y,aI j4];let⟨d,f,s,o,t⟩:=cK.read hI wo n _ un (wq++[j]) q (m.ph.trans a);exact⟨j::d,f,by rw[s];rfl,by rw[lS]at o;exact o,m.trans t⟩;exact⟨[],un,U,by rw[lf];exact h,⟨U,U,U,U,U,U,U,U⟩⟩
end
section
variable {g:Cf} {W:av Wi} {i:Nat} {jr:av Rq} {k:Ck} {un wq wf:av Nat} {ts:av Tk} {s:ByteArray} {t:av UInt8}
def zb{l}(h:s.data.toList=l):s.size=l.length:=by show s.data.size=_;rw[<-lQ,h]
def Tb{l}(h:s.data.toList=l)(a b):s.extract a b=⟨((l.drop a).take<|b-a).toArray⟩:=by refine rG<|BB.1 ?_;rw[rE,zz,h,Kh]
def acg(h:s.data.toList=gm.data.toList++t):qb s=(⟨1,⟨#[97]⟩,0,0,0,0,0,⟨#[]⟩,0⟩,6):=by have h:s.data.toList=70::69::82::82::89::97::103::t:=h;have f:=zb h;simp at f;have b:=wU h;have a:bt s 0=qg 0:=b 0;have b1:bt s 1=qg 1:=b 1;have c:bt s 2=qg 2:=b 2;have d:bt s 3=qg 3:=b 3;have e:bt s 4=qg 4:=b 4;have j:s.extract 5 6=⟨#[97]⟩:=Tb h 5 6;unfold qb;rw[cL,aI Y,aO a,cL,aI Y,aO b1,cL,aI Y,aO c,cL,aI Y,aO d,cL,aI Y,aO e,cL,aI Y,j]
def aeK(h:s.data.toList=103::t):opt s=(⟨2,⟨#[103]⟩,0,0,0,0,0,⟨#[]⟩,0⟩,1):=by have b:=zb h;simp at b;have a:bt s 0=103:=wU h 0;have c:s.extract 0 1=⟨#[103]⟩:=Tb h 0 1;unfold opt;rw[aI Y,a,aI aM,c]
def cK.UJ(hI:g.Is)(h:cK g W i jr k un wq wf ts)(l:k.ph=0)(hm:k.prom=0)(n):∃b,Ck.read g (n+2) k=Ck.read g n b/\cK g W i jr b un [] [] [.inl 89,.inl 71]/\b.ph=2/\(b.no=k.no/\b.wt=k.wt/\b.tok=k.tok/\b.de=k.de/\b.sv=k.sv/\b.prom=k.prom/\b.bw=k.bw):=by
 let⟨no,wt,ph,a,q,bw,prom,out,tok,d,f,c⟩:=k;have l:=l;have hm:=hm;subst l hm;obtain⟨rfl,rfl,rfl⟩:wq=[]/\wf=[]/\ts=[]:=h.ph.elim (λe=>absurd e j4) λe=>e.2;have w:q=[]:=by simpa using h.q
 have v:out=⟨#[]⟩:=rG (BB.1 h.out);subst w v;have o:a.data.toList=gm.data.toList++un.flatMap (rz W):=h.aN;have E:=hI.qu;have D:=hI.ou;have C:=hI.mx;have m:∀(ph:Int) (out:ByteArray),ph≠4->out.size<=2->(ph≠4/\(([]:av Rq).length:Int)<g.qu/\(out.size:Int)+0+needs []<=g.ou):=λph out j u=>⟨j,by show(0:Int)<g.qu;omega,by show(out.size:Int)+0+6<=g.ou;omega⟩;have z:((⟨#[97]⟩:ByteArray).toList==[97])=M:=akL;have A:((⟨#[103]⟩:ByteArray).toList==[103])=M:=akL;have B:((⟨#[103]⟩:ByteArray).toList==[105])=aa:=j4;have p:(a.extract 6 a.size).data.toList=103::un.flatMap (rz W):=by rw[AB,o];rfl
 have x:((a.extract 6 a.size).extract 1 (a.extract 6 a.size).size).data.toList=un.flatMap (rz W):=by rw[AB,p];rfl
 have f1:first g.sz g.mx 0 c a=(⟨1,⟨#[97]⟩,0,0,0,0,0,⟨#[]⟩,0⟩,6):=acg o
 have f2:first g.sz g.mx 1 c (a.extract 6 a.size)=(⟨2,⟨#[103]⟩,0,0,0,0,0,⟨#[]⟩,0⟩,1):=aeK p
 have j:Ck.hear g ⟨no,wt,0,a,[],bw,0,⟨#[]⟩,tok,d,f,c⟩ (⟨1,⟨#[97]⟩,0,0,0,0,0,⟨#[]⟩,0⟩,6)=⟨no,wt,1,a.extract 6 a.size,[],bw,0,⟨#[89]⟩,tok,d,f,c⟩:=by unfold Ck.hear;simp only[after,gM,answer,accepted,z];rfl
 have u:∀X:ByteArray,Ck.hear g ⟨no,wt,1,X,[],bw,0,⟨#[89]⟩,tok,d,f,c⟩ (⟨2,⟨#[103]⟩,0,0,0,0,0,⟨#[]⟩,0⟩,1)=⟨no,wt,2,X.extract 1 X.size,[],bw,0,⟨#[89,71]⟩,tok,d,f,c⟩:=λX=>by unfold Ck.hear;simp only[after,gM,answer,accepted,A,B];rfl
 refine⟨⟨no,wt,2,(a.extract 6 a.size).extract 1 (a.extract 6 a.size).size,[],bw,0,⟨#[89,71]⟩,tok,d,f,c⟩,?_,⟨.inl U,?_,U,h.fl,U,λt ht=>?_,h.nd,h.ok,h.us,h.lo,h.all⟩,U,U,U,U,U,U,U,U⟩;rw[Ck.read,aO<|m 0 ⟨#[]⟩ aM aM];simp only[f1];rw[aI aM,aI aM,j,Ck.read,aO<|m 1 ⟨#[89]⟩ aM aM];grind;rw[aI j4];exact x;rcases jh.1 ht with rfl|ht;exact .inl rfl;rw[iz.1 ht];exact .inr rfl
end
def NL{z A:Type}{f}{l:av A}{b}(h:l.Perm (b.map f)):∃d:av z,d.Perm b/\l=d.map f:=by
 generalize hm:b.map f=m at h;induction h generalizing b with
 |nil=>exact⟨[],by rw[Fi.1 hm],U⟩
 |cons x _ u=>obtain⟨o,t,rfl,rfl,n⟩:=Fh.1 hm;let⟨d,e,j⟩:=u n;exact⟨o::d,e.cons o,by rw[j];rfl⟩
 |swap x o l=>obtain⟨a,t,rfl,rfl,n⟩:=Fh.1 hm;obtain⟨c,p,rfl,rfl,rfl⟩:=Fh.1 n;exact⟨c::a::p,.swap a c p,U⟩
 |trans _ _ v w=>let⟨b1,e,j⟩:=w hm;let⟨q,r,s⟩:=v j.symm;exact⟨q,r.trans e,s⟩
section
variable {g:Cf} {W:av Wi} {i:Nat} {jr lF:av Rq} {k k':Ck} {un wq wf:av Nat} {ts:av Tk}
def cK.like(h:cK g W i jr k un wq wf ts)(a:k'.ph=k.ph)(c:k'.aN=k.aN)(d:k'.q.map (·.m)=k.q.map (·.m))(e:k'.out=k.out)(b:k'.us=k.us):cK g W i jr k' un wq wf ts:=⟨by rw[a];exact h.ph,by rw[a,c];exact h.aN,by rw[d];exact h.q,h.fl,by rw[e];exact h.out,h.tk,h.nd,h.ok,by rw[b];exact h.us,by rw[b];exact h.lo,h.all⟩
def Nz:∀(l:av Rq) (n:Int),(bL n l).1.map (·.m)=l.map (·.m)
 |[],n=>rfl|r::t,n=>by unfold bL;split;simp[Nz t];simp[Nz t]
def cK.dh(h:cK g W i jr k un wq wf ts):cK g W i jr (k.dh g) un wq wf ts:=h.like U U U U U
def cK.dQ(hI:g.Is)(wo:mA W)(h:cK g W i jr k un wq wf ts)(hm:k.ph=0->k.prom=0):∃b c v,un=b++c/\cK g W i jr (k.dQ g) c (wq++b) wf (ts++v)/\(k.dQ g).ph=2/\(k.dQ g).no=k.no:=by unfold Ck.dQ;rcases h.ph with a|⟨a,l,m,o⟩;let⟨b,c,e,f,d⟩:=cK.read hI wo (k.aN.size+1) k un wq h a;exact⟨b,c,[],e,by rw[lf];exact f,d.ph.trans a,d.no⟩;have r:=zb h.aN;rw[aO a,fQ]at r;have w:gm.data.toList.length=7:=U;obtain⟨n,q⟩:∃n,k.aN.size+1=n+2:=⟨k.aN.size-1,Y⟩;rw[q];let⟨u,e,f,d,p⟩:=h.UJ hI a (hm a) n;rw[e];let⟨b,c,s,t,j⟩:=cK.read hI wo n u un [] f d;subst l m o;exact⟨b,c,_,s,t,j.ph.trans d,j.no.trans p.1⟩
structure qK(k:Ck)(l:av Rq)(k':Ck):Prop where
 q:k.q=l++k'.q
 ph:k'.ph=k.ph
 aN:k'.aN=k.aN
 out:k'.out=k.out
 us:k'.us=k.us
 no:k'.no=k.no
def qK.refl(k):qK k [] k:=⟨U,U,U,U,U,U⟩
def qK.trans{k1 k2 l1 l2}(h:qK k l1 k1)(a:qK k1 l2 k2):qK k (l1++l2) k2:=⟨by rw[h.q,a.q,lS],a.ph.trans h.ph,a.aN.trans h.aN,a.out.trans h.out,a.us.trans h.us,a.no.trans h.no⟩
def MC(h:k.q≠[]):qK k [k.fst] k.next:=by refine⟨?_,U,U,U,U,U⟩;show k.q=[k.fst]++k.q.tail;unfold Ck.fst;grind
def Iw(h:k.eM g=M):k.q≠[]:=λe=>by unfold Ck.eM at h;rw[e]at h;cases h
def GR{f:Fx}{s}:∀(n:Nat) (k:Ck) (a:av Rq),∃l,(f.eK s n k a).2=a++l/\qK k l (f.eK s n k a).1
 |0,k,a=>⟨[],by simp[Fx.eK],.refl k⟩|n+1,k,a=>by
  unfold Fx.eK;split
  ·rename_i h;have hr:k.eM (f.at s k).g=M:=by unfold Fx.along Fx.free at h;simp at h;exact h.1.1
   obtain⟨l,b,c⟩:=GR n k.next (a++[k.fst]);exact⟨k.fst::l,by rw[b];simp,(MC<|Iw hr).trans c⟩
  exact⟨[],ay,.refl k⟩
def cK.goes{l}(h:cK g W i jr k un wq wf ts)(a:qK k l k')(e:lF.Perm (l++jr))(u:k.ph=2):∃v b,cK g W i lF k' un v b ts:=by
 have n:=h.q;rw[a.q,sV]at n;have o:l.map (·.m)=(wq.take l.length).map (pg W):=by have:=cG (List.take l.length) n;rwa [C8 ay,qE ay,<-List.map_take]at this
 have p:k'.q.map (·.m)=(wq.drop l.length).map (pg W):=by have:=cG (List.drop l.length) n;rwa [Kg ay,BR ay,jZ,<-List.map_drop]at this
 have t:(lF.map (·.m)).Perm ((wq.take l.length++wf).map<|pg W):=by rw[sV,<-o,<-h.fl,<-sV];exact e.map _
 obtain⟨b,c,d⟩:∃b:av Nat,b.Perm (wq.take l.length++wf)/\lF.map (·.m)=b.map (pg W):=NL t;have f:(un++wq.drop l.length++b++ts.filterMap Tk.no).Perm (un++wq++wf++ts.filterMap Tk.no):=by apply Kf _;rw[lS,lS];apply List.Perm.append_left _;apply((c.append_left _).trans);rw[<-lS];apply Kf _;apply C4.trans;rw[pL]
 exact⟨wq.drop l.length,b,.inl<|a.ph.trans u,by rw[a.ph,a.aN];exact h.aN,p,d,by rw[a.out];exact h.out,h.tk,f.nodup_iff.2 h.nd,λj e=>h.ok j (f.mem_iff.1 e),by rw[a.us];exact h.us,by rw[a.us];exact h.lo,λj r c d s=>f.mem_iff.2 (h.all j r c d s)⟩
end
section
variable {g:Cf} {W:av Wi} {i:Nat} {jr lF:av Rq} {k:Ck} {un wq wf:av Nat} {ts:av Tk} {r:Rq}
def afY(er:UInt8)(ck d):(jy er ck d).data.toList=82::er::(cu ck++d.data.toList):=by unfold jy;simp[zB,uh]
def cK.whose(h:cK g W i jr k un wq wf ts)(p:jr.Perm (r::lF)):∃(j:Nat) (a:Wi) (b:av Nat),wf.Perm (j::b)/\W[j]? =Z a/\a.u=i/\a.Good g/\r.m=a.msg/\lF.map (·.m)=b.map (pg W):=by
 have q:((r::lF).map (·.m)).Perm (wf.map<|pg W):=by rw[<-h.fl];exact(p.map _).symm
 let⟨s,c,e⟩:=NL q;obtain⟨j,b,rfl,f,l⟩:=Fh.1 e.symm;let⟨a,d,n,o⟩:=h.ok j (by simp[c.mem_iff.1 fJ]);exact⟨j,a,b,c.symm,d,n,o,f.symm.trans<|We d,l.symm⟩
def cK.nQ(h:cK g W i jr k un wq wf ts)(p:k.ph=2)(v:jr.Perm (r::lF)){er d}(he:er=0\/er=5)(hd:d.size=if r.m.kd=0/\er=0 then r.m.ln.toNat else 0):∃c t,cK g W i lF (k.nQ r er d) un wq c (ts++[t])/\(k.nQ r er d).ph=2:=by
 let⟨j,A,c,n,b,f,s,o,u⟩:=h.whose v;have w:k.nQ r er d={k with bw:=k.bw-1,prom:=k.prom-sizeOf' r.m,out:=k.out++jy er r.m.ck d,us:=freed k.us r.m.ck}:=by unfold Ck.nQ;rw[aI Y]
 have l:(un++wq++c++(ts++[(.inr (j,er,d.data.toList):Tk)]).filterMap Tk.no).Perm (un++wq++wf++ts.filterMap Tk.no):=by
  have e:(ts++[(.inr (j,er,d.data.toList):Tk)]).filterMap Tk.no=ts.filterMap Tk.no++[j]:=by rw[List.filterMap_append];rfl
  grind
 rw[w];refine⟨c,.inr (j,er,d.data.toList),⟨.inl p,h.aN,h.q,u,?_,λt ht=>?_,l.nodup_iff.2 h.nd,λx a=>h.ok x (l.mem_iff.1 a),λx a hm=>h.us x a (rO.1 hm).1,λx a=>h.lo x (rO.1 a).1,λx z n b f=>l.mem_iff.2 (h.all x z n b f)⟩,p⟩;show(k.out++jy er r.m.ck d).data.toList=_;rw[zB,uh,h.out,rL,afY,Kk];show _=_++82::er::(cu (iW W j)++d.data.toList);rw[Gv b,o];rcases jg.1 ht with ht|ht;exact h.tk t ht;rw[iz.1 ht];refine⟨A,b,f,by have:=s.er.2.2;omega,he,?_⟩;rw[o]at hd;rwa [lQ]
def cK.answers{B ft}:∀(a:av Rq) (k:Ck) (jr:av Rq) (wf:av Nat) (ts:av Tk),cK g W i jr k un wq wf ts->k.ph=2->jr.Perm (a++lF)->(B.size:Int)=g.sz->∃J G,cK g W i lF (k.answers B ft a) un wq J (ts++G)/\(k.answers B ft a).ph=2
 |[],k,jr,wf,ts,h,c,b,o=>by
  have w:((lF.map (·.m))).Perm (wf.map<|pg W):=by rw[<-h.fl];exact(b.map _).symm
  let⟨n,f,j⟩:=NL w;have l:(un++wq++n++ts.filterMap Tk.no).Perm (un++wq++wf++ts.filterMap Tk.no):=(f.append_left _).append_right _;exact⟨n,[],by rw[lf];exact⟨.inl c,h.aN,h.q,j,h.out,h.tk,l.nodup_iff.2 h.nd,λx A=>h.ok x (l.mem_iff.1 A),h.us,h.lo,λx z f j s=>l.mem_iff.2 (h.all x z f j s)⟩,c⟩
 |r::a,k,jr,wf,ts,h,c,b,o=>by
  let⟨_,O,_,_,_,_,v,hm,_⟩:=h.whose (lF:=a++lF) b;have N:=v.of;have u:(lO B<|mZ k.no r ft.eJ).size=if r.m.kd=0/\sF ft=0 then r.m.ln.toNat else 0:=by unfold lO mZ sF;cases ft.eJ;simp;by_cases e:r.m.kd=0;rw[aO e,aO e];show(B.extract r.m.of.toNat<|r.m.of.toNat+r.m.ln.toNat).size=_;grind;rw[aI e,aI e];rfl;rw[aI ay,aI ay];rfl
  let⟨K,t,C,D⟩:=h.nQ (lF:=a++lF) c b (er:=sF ft) (d:=lO B<|mZ k.no r ft.eJ) (by unfold sF;split<;>simp) u;obtain⟨L,H,p,E⟩:=cK.answers a (k.hrd B ft r) (a++lF) K (ts++[t]) C D (.refl _) o;exact⟨L,t::H,by rw[lS]at p;exact p,E⟩
end
section
variable {g:Cf} {W:av Wi} {i j:Nat} {jr:av Rq} {k k':Ck} {un wq wf:av Nat} {ts:av Tk} {now:Int} {r:Wi}
def NH{t:Tk}(h:t.no≠Z j):(t.on now W)[j]? =W[j]? :=by
 match t,h with
 |.inl b,_=>rfl
 |.inr (m,e,x),h=>have c:m≠j:=λa=>h (by rw[a];rfl);unfold Tk.on;grind
def tS:∀(ts:av Tk) (W:av Wi),j∉ts.filterMap Tk.no->(dS now W ts)[j]? =W[j]?
 |[],W,_=>rfl|t::ts,W,h=>by exact(tS ts (t.on now W) (λhm=>h j4)).trans<|NH (λe=>h (sX.2 ⟨t,fJ,e⟩))
def WK{e x}(h:W[j]? =Z r):(Tk.on now W<|.inr (j,e,x))[j]? =Z (r.had now e x):=by unfold Tk.on;grind
def AV:∀(ts:av Tk) (W:av Wi) (r:Wi),j∈ts.filterMap Tk.no->W[j]? =Z r->∃e x,(.inr (j,e,x):Tk)∈ts/\(dS now W ts)[j]? =Z (r.had now e x)
 |[],W,r,hm,_=>by cases hm
 |t::ts,W,r,hm,hr=>by
  by_cases b:j∈ts.filterMap Tk.no;obtain⟨a,h,l⟩:∃a,(t.on now W)[j]? =Z a/\∀e x,a.had now e x=r.had now e x:=by
   by_cases e:t.no=Z j;match t,e with
   |.inr (m,c,f),e=>have e:=ey e;subst e;exact⟨_,WK hr,λ_ _=>U⟩
   exact⟨r,(NH e).trans hr,λ_ _=>U⟩
  let⟨e,x,n,o⟩:=AV ts (t.on now W) a b h;exact⟨e,x,gC _ n,by rw[<-l];exact o⟩;let⟨d,ht',e⟩:=sX.1 hm;rcases jh.1 ht' with rfl|ht';match d,e with
  |.inr (m,c,f),e=>have e:=ey e;subst e;exact⟨c,f,fJ,(tS ts _ b).trans<|WK hr⟩
  exact absurd (sX.2 ⟨d,ht',e⟩) b
def DW:∀(ts:av Tk) (W:av Wi),W[j]? =aj->(dS now W ts)[j]? =aj
 |[],W,h=>h|t::ts,W,h=>DW ts _ (by
  by_cases e:t.no=Z j;match t,e with
  |.inr (m,a,b),e=>have e:m=j:=ey e;subst e;unfold Tk.on;dsimp only;rw[h];exact h
  exact(NH e).trans h)
def cK.took{i' a}(h:cK g W i jr k un wq wf ts)(q:i'≠i)(s:0<=now)(l:∀t∈a,mU i' W t):cK g (dS now W a) i jr k un wq wf ts:=by
 have no:∀(j:Nat) r,W[j]? =Z r->r.u=i->j∉a.filterMap Tk.no:=λj r b d hm=>by
  let⟨t,f,c⟩:=sX.1 hm;match t,c,(l t f)with
  |.inr (m,e,x),c,⟨aqi,o,p,_⟩=>have c:m=j:=ey c;grind
 refine h.keep (λj r b d=>(tS a W<|no j r b d).trans b) λj r b d f=>?_;by_cases hm:j∈a.filterMap Tk.no;rcases e:W[j]? with _|aqi;rw[DW a W e]at b;cases b;let⟨n,x,_,c⟩:=AV (now:=now) a W aqi hm e;grind;rwa [tS a W hm]at b
def cK.takes(h:cK g W i jr k un wq wf ts)(E:0<=now)(l:k'.ph=k.ph)(s:k'.aN=k.aN)(u:k'.q=k.q)(v:k'.out=⟨#[]⟩)(m:k'.us=k.us):cK g (dS now W ts) i jr k' un wq wf []:=by
 have o:=Ca.1 h.nd;have no:∀j∈un++wq++wf,j∉ts.filterMap Tk.no:=λj a hm=>o.2.2 j a j hm U;have f:∀j∈un++wq++wf,Alike W (dS now W ts) j:=λj a=>by let⟨r,b,_⟩:=h.ok j (Fl _ a);exact LF b<|(tS ts W<|no j a).trans b
 have m1:∀j∈un,Alike W (dS now W ts) j:=λj a=>f j D2;refine⟨h.ph.imp (λe=>l.trans e) λe=>⟨l.trans e.1,e.2.1,e.2.2.1,U⟩,?_,?_,?_,by rw[v];rfl,λt A=>(by cases A),?_,λj a=>?_,λj a=>?_,λx p=>?_,λj r a B w=>?_⟩;rw[l,s,h.aN]
 congr 1;exact Dn λj a=>(m1 j a).dV.symm;rw[u,h.q];exact rN λj a=>((λj a=>f j D2) j a).msg.symm;rw[h.fl];exact rN λj a=>((λj a=>f j D2) j a).msg.symm;rw[Ki,lf];exact o.1;rw[Ki,lf]at a;let⟨r,b,c,d⟩:=h.ok j (Fl _ a);exact⟨r,(tS ts W<|no j a).trans b,c,d⟩;rw[(m1 j a).ck,m];exact h.us j a;rw[m]at p;let⟨j,aqi,b,c,d⟩:=h.lo x p;by_cases hm:j∈ts.filterMap Tk.no;let⟨e,z,_,n⟩:=AV (now:=now) ts W aqi hm b;exact⟨j,_,n,c,d⟩;exact⟨j,aqi,(tS ts W hm).trans b,c,d⟩;rw[Ki,lf];by_cases hm:j∈ts.filterMap Tk.no;rcases e:W[j]? with _|aqi;rw[DW ts W e]at a;cases a;let⟨D,x,_,n⟩:=AV (now:=now) ts W aqi hm e;grind;rw[tS ts W hm]at a;exact(jg.1<|h.all j r a B w).resolve_right hm
end
def gO:av Jb->Nat->av Rq
 |[],_=>[]|b::l,s=>(if b.s=s then b.rs else[])++gO l s
def eT(g:Cf)(W:av Wi)(i s:Nat)(f:Fx):Prop:=∃k,f.K[s]? =Z (Z k)/\k.no=i/\k.ph=2/\wO g W i (gO f.fl s) k
section
variable {g:Cf} {W:av Wi} {i s:Nat} {f:Fx}
def Nb(s):∀a b:av Jb,gO (a++b) s=gO a s++gO b s
 |[],b=>rfl|x::a,b=>by show(if x.s=s then x.rs else[])++gO (a++b) s=((if x.s=s then x.rs else[])++gO a s)++gO b s;rw[Nb s a b,lS]
def acO(b fl s):(gO (fP b fl) s).Perm ((if b.s=s then b.rs else[])++gO fl s):=by unfold fP jw;rw[Nb];have e:gO (b::fl.drop (oq b fl)) s=(if b.s=s then b.rs else[])++gO (fl.drop<|oq b fl) s:=U;rw[e,<-lS];apply(Kf _ C4).trans;rw[lS,<-Nb,pL]
def eT.does{b r}(h:eT g W i s f)(t:f.fl=b::r)(j:(({f with fl:=r}:Fx).does b).B.size=g.sz):eT g W i s (({f with fl:=r}:Fx).does b):=by
 let⟨k,l,m,n,o,q,p,d,a⟩:=h;rw[t]at a;by_cases e:b.s=s;subst e;rw[(sE (f:={f with fl:=r}) (b:=b) (k:=k) l)]at j⊢;have c:gO (b::r) b.s=b.rs++gO r b.s:=by show(if b.s=b.s then b.rs else[])++_=_;rw[aO U]
 rw[c]at a;let⟨v,u,w,x⟩:=cK.answers (ft:=b.ft) b.rs k _ p d a n (.refl _) j;refine⟨k.answers (({f with fl:=r}:Fx).dk.change b.rs b.ft).B b.ft<|b.rs.take b.rs.length,iy<|(bY.1 l).1,(Gk ..).trans m,?_,o,q,v,d++u,?_⟩;rwa [pM];rwa [pM];have c:gO (b::r) s=gO r s:=by show(if b.s=s then b.rs else[])++_=_;rw[aI e];rfl
 rw[c]at a;refine⟨k,?_,m,n,o,q,p,d,?_⟩;unfold Fx.does;grind;rwa [(uR {f with fl:=r} b).1]
def eT.fin:∀(n:Nat) (f:Fx),f.nK->f.g=g->eT g W i s f->eT g W i s (Fx.fin n f)
 |0,f,_,_,h=>h|n+1,f,j,l,h=>by unfold Fx.fin;split;exact h;rename_i b r d;split;rename_i k;have c:=(wY.does f b r j d k).2.2;have e:=(uR {f with fl:=r} b).2.2.trans l;have a:=c.core.B;rw[e]at a;exact eT.fin n _ c e<|h.does d a;exact h
def eT.at {s' k k'}(h:eT g W i s f)(c:f.K[s']? =Z (Z k))(b:k'.ph=k.ph)(t:k'.aN=k.aN)(u:k'.q.map (·.m)=k.q.map (·.m))(v:k'.out=k.out)(w:k'.us=k.us)(x:k'.no=k.no):eT g W i s (f.at s' k'):=by let⟨z,a,d,j,o,r,p,n,l⟩:=h;by_cases e:s'=s;subst e;rw[a]at c;cases c;exact⟨k',iy (bY.1 a).1,x.trans d,b.trans j,o,r,p,n,l.like b t u v w⟩;exact⟨z,(gQ e).trans a,d,j,o,r,p,n,l⟩
def eT.use(h:eT g W i s f):eT g W i s f.bg.1:=by
 rcases ek:f.K[f.aC]? with _|o;unfold Fx.bg;rw[ek];exact h;rcases o with _|k;unfold Fx.bg;rw[ek];exact h;rw[Bs ek];have t1:eT g W i s (f.turned k):=by have:=h.at (k':=f.aT k) ek C6 C6 C6 C6 C6 C6;exact this
 have m:(f.turned k).K[f.aC]? =Z (Z<|f.aT k):=iy ((bY.1 ek).1);split
 ·rename_i C;split
  ·have hr:(f.aT k).eM (f.turned k).g=M:=by unfold Fx.free at C;grind
   let⟨l,z,A⟩:=GR (f:=f.turned k) (s:=f.aC) (f.aT k).next.q.length (f.aT k).next [(f.aT k).fst]
   have d:=(MC<|Iw hr).trans A;let⟨v,j,t,b,x,E,D,w,u⟩:=t1;have B:((f.turned k).gN f.aC<|f.aT k).fl=fP ⟨f.aC,((f.turned k).eK f.aC (f.aT k).next.q.length (f.aT k).next [(f.aT k).fst]).2,(f.turned k).dG,(f.turned k).clock+(f.turned k).dG.delay,(f.turned k).bO⟩ (f.turned k).fl:=U;have r:((f.turned k).gN f.aC<|f.aT k).K=(f.turned k).K.set f.aC (Z ((f.turned k).eK f.aC (f.aT k).next.q.length (f.aT k).next [(f.aT k).fst]).1):=U;have a:=acO ⟨f.aC,((f.turned k).eK f.aC (f.aT k).next.q.length (f.aT k).next [(f.aT k).fst]).2,(f.turned k).dG,(f.turned k).clock+(f.turned k).dG.delay,(f.turned k).bO⟩ (f.turned k).fl s;rw[<-B]at a;by_cases e:f.aC=s;subst e;rw[m]at j;cases j;rw[aO U,z]at a;let⟨p,n,c⟩:=u.goes d a b;exact⟨_,by rw[r];exact iy (bY.1 m).1,d.no.trans t,d.ph.trans b,x,p,n,w,c⟩;rw[aI e,jZ]at a;let⟨p,n,c⟩:=u.goes (qK.refl v) a b;exact⟨v,by rw[r];exact(gQ e).trans j,t,b,x,p,n,w,c⟩
  exact t1
 exact t1.at (k':=(f.aT k).lose) m U U U U U U
def eT.turns:∀(n p:Nat) (f:Fx),eT g W i s f->eT g W i s (Fx.turns n p f)
 |0,p,f,h=>h|n+1,p,f,h=>by unfold Fx.turns;split;split;exact eT.turns n 0 _ h.use;refine eT.turns n (p+1) _ ?_;obtain⟨k,a,b⟩:=h.use;exact⟨k,a,b⟩;exact h
end
def iG(g:Cf)(W:av Wi)(i s:Nat)(f:Fx):Prop:=∃k,f.K[s]? =Z (Z k)/\k.no=i/\wO g W i (gO f.fl s) k
section
variable {g:Cf} {W:av Wi} {i s:Nat} {f:Fx}
def eT.u(h:eT g W i s f):iG g W i s f:=by let⟨k,a,b,_,c⟩:=h;exact⟨k,a,b,c⟩
def iG.fY(h:iG g W i s f)(j):iG g W i s (f.fY j):=by
 let⟨k,b,c,m,p,n,l,d⟩:=h;rcases a:f.K[j]? with _|o;rw[GB<|az a];exact⟨k,b,c,m,p,n,l,d⟩;cases o with
 |none=>rw[GB<|aA a];exact⟨k,b,c,m,p,n,l,d⟩
 |some q=>rw[Mf a];by_cases e:j=s;subst e;rw[b]at a;cases a;exact⟨k.dh f.g,iy (bY.1 b).1,c,m,p,n,l,d.like U U U U U⟩;exact⟨k,(gQ e).trans b,c,m,p,n,l,d⟩
def uU{e d:Type}{P:d->Prop}{op}(h:∀b a,P b->P (op b a)):∀(l:av e) (b:d),P b->P (l.foldl op b)
 |[],b,c=>c|a::l,b,c=>uU h l (op b a) (h b a c)
def iG.early(h:iG g W i s f):iG g W i s f.early:=by exact uU (λb a c=>c.fY a) _ _ h
def Ip:∀(l:av Jb),gO l s=[]->ir l s=0
 |[],_=>rfl|b::l,h=>by let⟨a,c⟩:=Fc.1 h;show(if b.s=s then iJ b.rs else 0)+ir l s=0;rw[Ip l c];split;rename_i e;rw[aO e]at a;rw[a];rfl;rfl
def iG.read(hI:g.Is)(wo:mA W)(v:f.g=g)(h:iG g W i s f)(hm:∀k,f.K[s]? =Z (Z k)->k.prom=ir f.fl s):eT g W i s f.readAll:=by
 let⟨k,c,d,z,u,t,n,a⟩:=h;let⟨q,r,p,x,j,l,m⟩:=a.dQ hI wo λw=>by rw[hm k c];let⟨_,_,e,_⟩:=a.ph.resolve_left Y;have b:=a.fl;rw[e]at b;exact Ip _<|Fi.1 b
 refine⟨k.dQ g,?_,m.trans d,l,r,u++q,t,n++p,j⟩;show(f.K.map λo=>o.map (Ck.dQ f.g))[s]? =_;grind
def eT.eV(h:eT g W i s f)(j):eT g W i s (f.eV j):=by
 rcases ek:f.K[j]? with _|o;rw[AT<|az ek];exact h;cases o with
 |none=>rw[AT<|aA ek];exact h
 |some k'=>rw[DS ek];let⟨k,a⟩:=h.at (k':=k'.num f.acc) ek U U (Nz k'.q f.acc) U U U;exact⟨k,a⟩
def eT.mG(h:eT g W i s f):eT g W i s f.mG:=uU (λb a c=>c.eV a) _ _ h
def eT.dP(h:eT g W i s f)(j):eT g W i s (f.dP j):=by
 let⟨k,a,b,c,d⟩:=h;unfold Fx.dP;split;rename_i n l;split;rename_i m;have e:j≠s:=λe=>by subst e;rw[a]at l;cases l;unfold Ck.gone at m;grind
 exact⟨k,(gQ e).trans a,b,c,d⟩;exact⟨k,a,b,c,d⟩;exact⟨k,a,b,c,d⟩
def eT.bQ(h:eT g W i s f)(j):eT g W i s (f.bQ j):=uU (λb a c=>c.dP a) _ _ h
def aaq(f:Fx):f.uS.g=f.g/\f.uS.fl=f.fl/\f.uS.stop=f.stop/\∀(s:Nat) k,f.uS.K[s]? =Z (Z k)->∃d,f.K[s]? =Z (Z d)/\k.prom=d.prom:=by refine uU (P:=λb:Fx=>b.g=f.g/\b.fl=f.fl/\b.stop=f.stop/\∀(s:Nat) k,b.K[s]? =Z (Z k)->∃d,f.K[s]? =Z (Z d)/\k.prom=d.prom) (λb a c=>?_) _ _ ⟨U,U,U,λs k h=>⟨k,h,U⟩⟩;unfold Fx.fY;split;rename_i l j;refine⟨c.1,c.2.1,c.2.2.1,λs k h=>?_⟩;have h:=h;by_cases e:a=s;subst e;rw[iy (bY.1 j).1]at h;cases h;exact c.2.2.2 a l j;rw[gQ e]at h;exact c.2.2.2 s k h;exact c
def iG.tick(hR:f.Rest)(hc:f.clock<1073741824)(c:f.g=g)(r:f.stop=aa)(wo:mA W)(h:iG g W i s f):eT g W i s f.tick:=by
 have hI:=hR.core.g;rw[c]at hI;let⟨j,u,v,w⟩:=aaq {f with clock:=f.clock+1};have e:f.early.goes=f.early.readAll.mG:=by unfold Fx.goes;rw[show f.early.stop=aa from v.trans r];rfl
 have l:eT g W i s f.early.goes:=by rw[e];refine(h.early.read hI wo (j.trans c) λk q=>?_).mG;let⟨t,m,n⟩:=w s k q;apply(n.trans (hR.core.cl s t m).2.2).trans;exact cG (ir · s) u.symm
 have d:=(hR.ok hc).next
 have p:f.early.goes.g=g:=by have:=d.core;rw[e];refine uU (P:=λb:Fx=>b.g=g) (λb a o=>?_) _ _<|j.trans c;exact(WA b a).2.1.trans o
 exact((eT.fin _ _ d p l).turns _ _ _).bQ _
end
def TL:∀(n:Nat) (f:Fx),f.nK->(Fx.fin n f).nK
 |0,f,h=>h|n+1,f,h=>by unfold Fx.fin;split;exact h;rename_i b r d;split;rename_i a;exact TL n _ (wY.does f b r h d a).2.2;exact h
def Jr:∀(n p:Nat) (f:Fx),f.mw->(Fx.turns n p f).mw
 |0,p,f,h=>h|n+1,p,f,h=>by
  unfold Fx.turns;split;rename_i a;cases e:f.bg.2 with
  |true=>rw[aO U];exact Jr n 0 _<|vw.used f h a.1 e
  |false=>rw[aI aM];exact Jr n (p+1) _<|vw.pass f h e
  exact h
def Xu{f:Fx}(h:f.Rest)(hc:f.clock<1073741824):f.tick.Rest/\f.tick.clock=f.clock+1:=YB h (Jr _ _ _ (TL _ _ (h.ok hc).next).trn)
structure eH(g:Cf)(t:Nat)(f:Fx)(c:Cw):Prop where
 is:g.Is
 rest:f.Rest
 gg:f.g=g
 stop:f.stop=aa
 bF:f.bF=c.S.length
 dO:f.clock<=t/\(0<=c.now/\c.now<=t)/\c.S.length<=t+8/\c.W.length<=t/\c.dl<=16
 ck:c.W.length<=c.ck/\c.ck<=60000
 one:∀(j:Nat) r,c.W[j]? =Z r->r.ck<=c.ck/\r.u<c.S.length/\0<=r.ln/\r.ln<=65535
 two:∀(j a:Nat) r b,c.W[j]? =Z r->c.W[a]? =Z b->r.ck=b.ck->j=a
 hd:∀(i:Nat) s,c.S[i]? =Z s->s.hd=⟨#[]⟩
 aC:∀(i:Nat) s,c.S[i]? =Z s->s.aw=aa->∃d,iG g c.W i d f
section
variable {g:Cf} {t:Nat} {f f':Fx} {c:Cw}
def eH.wo(h:eH g t f c):mA c.W:=⟨by have:=h.ck;omega,λj r e=>by have:=h.one j r e;have:=h.ck;omega,λj i r k a b _ d=>h.two j i r k a b d⟩
def eH.stay(h:eH g t f c):eH g (t+1) f c.late:=⟨h.is,h.rest,h.gg,h.stop,h.bF,by have:=h.dO;show f.clock<=(t+1:Nat)/\(0<=c.now+1/\c.now+1<=(t+1:Nat))/\c.S.length<=t+1+8/\c.W.length<=t+1/\c.dl<=16;omega,h.ck,h.one,h.two,h.hd,h.aC⟩
def eH.tick(h:eH g t f c)(n:t<1073741824):eH g (t+1) f.tick c.late:=by
 have b:f.clock<1073741824:=by have:=h.dO.1;omega
 let⟨d,m⟩:=Xu h.rest b;have a:=Jn f;refine⟨h.is,d,(cG (·.1) a).trans h.gg,(cG (·.2.2) a).trans h.stop,(cG (·.2.1) a).trans h.bF,?_,h.ck,h.one,h.two,h.hd,λi s j e=>?_⟩;have:=h.dO;grind;let⟨l,k⟩:=h.aC i s j e;exact⟨l,(k.tick h.rest b h.gg h.stop h.wo).u⟩
def eH.dG{d'}(h:eH g t f c)(b:f'.Rest)(d:f'=f\/∃u,f'=f.sI u/\1<=u.delay/\u.delay<=d')(p:c.dl<=d'/\d'<=16):eH g (t+1) f' {c.late with dl:=d'}:=by
 have a:f'.K=f.K/\f'.fl=f.fl/\f'.g=f.g/\f'.stop=f.stop/\f'.bF=f.bF/\f'.clock=f.clock:=by rcases d with rfl|⟨u,rfl,_⟩<;>exact⟨rfl,rfl,rfl,rfl,rfl,rfl⟩
 refine⟨h.is,b,a.2.2.1.trans h.gg,a.2.2.2.1.trans h.stop,a.2.2.2.2.1.trans h.bF,?_,h.ck,h.one,h.two,h.hd,λi s n m=>?_⟩;have:=h.dO;grind;let⟨o,k,e,j,l⟩:=h.aC i s n m;exact⟨o,k,by rw[a.1];exact e,j,by rw[a.2.1];exact l⟩
end
section
variable {g:Cf} {t:Nat} {f f':Fx} {c c':Cw} {i sx:Nat} {s:Sl} {k:Ck} {b:Bool} {r:Wi}
def eH.Jp(h:eH g t f c)(m:c.S[i]? =Z s)(l:s.aw=aa)(a:f.Is i sx k):wO g c.W i (gO f.fl sx) k:=by let⟨o,n,d,j,p⟩:=h.aC i s m l;have e:=a.one o n d j;subst e;have:=a.at_;grind
def eH.Ho(h:eH g t f c)(a:c.S[i]? =Z s)(j:s.aw=aa):s.hd=⟨#[]⟩/\∃sx k,f.Is i sx k:=by let⟨sx,k,d,e,_⟩:=h.aC i s a j;exact⟨h.hd i s a,sx,k,e▸h.rest.core.is d⟩
def wO.open{W jr}(h:wO g W i jr k):k.ph=2\/k.ph=0:=by let⟨d,j,e,a,h⟩:=h;exact h.ph.imp id (·.1)
def eH.ask{n:Int}(hn:0<=n/\n<=(t+1:Nat))(h:eH g t f c)(J:c.S[i]? =Z s)(V:s.aw=aa)(m:f.Is i sx k)(uW:c.ck<60000)(A:CI g f (c.til n) i sx k b f' c' r):b=M/\eH g (t+1) f' c':=by
 have q:=h.Jp J V m;have hp:=q.open;have hi:=(bY.1 J).1;let⟨a1,H,a3⟩:=A.is;have H:r.ck=c.ck+1:=H;have hr:=h.rest.send m.at_ r.dV;have aJ:=h.dO;have aH:=h.ck;have an:f.send sx k r.dV=(f,6)\/f.send sx k r.dV=(f.at sx<|k.send r.dV,0):=by unfold Fx.send;grind
 rcases an with e|e
 ·rcases A.out with⟨_,v,a,z⟩|⟨p,_⟩;·rw[e]at a hr;have a:=a;subst a z;refine⟨v,h.is,h.rest,h.gg,h.stop,h.bF,?_,?_,λj x l=>?_,h.two,h.hd,h.aC⟩;show f'.clock<=(t+1:Nat)/\(0<=n/\n<=(t+1:Nat))/\c.S.length<=t+1+8/\c.W.length<=t+1/\c.dl<=16;omega;show c.W.length<=c.ck+1/\c.ck+1<=60000;omega;have:=h.one j x l;grind
  rw[e]at p;exact absurd U p
 rcases A.out with⟨p,_⟩|⟨_,v,a,z⟩;rw[e]at p;exact absurd p j4;rw[e]at v a hr;have a:=a;subst a z;have aQ:=A.good.small h.is;have fresh:∀(j:Nat) x,c.W[j]? =Z x->x.ck≠r.ck:=λj x l=>by have:=h.one j x l;omega
 have B:∀{j:Nat} {x:Wi},(c.W++[r])[j]? =Z x->c.W[j]? =Z x\/(j=c.W.length/\x=r):=λ{j x} l=>by grind
 refine⟨v,h.is,hr,h.gg,h.stop,h.bF,?_,?_,λj x l=>?_,λj L x O l af w=>?_,h.hd,λK s' ak X=>?_⟩;show f.clock<=(t+1:Nat)/\(0<=n/\n<=(t+1:Nat))/\c.S.length<=t+1+8/\(c.W++[r]).length<=t+1/\c.dl<=16;grind;show(c.W++[r]).length<=c.ck+1/\c.ck+1<=60000;grind;show x.ck<=c.ck+1/\x.u<c.S.length/\0<=x.ln/\x.ln<=65535;rcases B l with d|⟨_,rfl⟩;have:=h.one j x d;omega;omega;rcases B l with d|⟨d,P⟩<;>rcases B af with o|⟨o,Q⟩;exact h.two j L x O d o w;exact absurd (w.trans (by rw[Q])) (fresh j x d);exact absurd (w.symm.trans (by rw[P])) (fresh L O o);omega;by_cases R:K=i;subst R;let⟨D,G,E,C,q⟩:=q;exact⟨sx,k.send r.dV,iy (bY.1 m.at_).1,m.no,D++[c.W.length],G,E,C,q.send a1 A.good fresh⟩;let⟨N,k2,d,o,D,G,E,C,T⟩:=h.aC K s' ak X;have ah:sx≠N:=λe=>by subst e;have:=m.at_;rw[d]at this;cases this;have:=m.no;omega
 exact⟨N,k2,(gQ ah).trans d,o,D,G,E,C,T.other Y⟩
end
section
variable {g:Cf} {t:Nat} {f:Fx} {c:Cw} {i sx:Nat} {s:Sl} {k:Ck} {W:av Wi} {now:Int}
def iG.dP(h:iG g W i sx f)(j):iG g W i sx (f.dP j):=by
 let⟨k,a,d,b⟩:=h;unfold Fx.dP;split;rename_i n m;split;rename_i l;have e:j≠sx:=λe=>by subst e;rw[a]at m;cases m;unfold Ck.gone at l;rcases b.open with h3|h3<;>rw[h3]at l<;>simp at l
 exact⟨k,(gQ e).trans a,d,b⟩;exact⟨k,a,d,b⟩;exact⟨k,a,d,b⟩
def iG.bQ(h:iG g W i sx f)(j):iG g W i sx (f.bQ j):=uU (λb a d=>d.dP a) _ _ h
def MA(f:Fx)(j):(f.bQ j).g=f.g/\(f.bQ j).stop=f.stop/\(f.bQ j).bF=f.bF/\(f.bQ j).clock=f.clock:=by refine uU (P:=λb:Fx=>b.g=f.g/\b.stop=f.stop/\b.bF=f.bF/\b.clock=f.clock) (λb a d=>?_) _ _ ⟨U,U,U,U⟩;unfold Fx.dP;grind
def WJ(ts W):(dS now W ts).length=W.length:=by refine uU (P:=λb:av Wi=>b.length=W.length) (λb a d=>?_) ts W U;unfold Tk.on;grind
def NG{j:Nat}{x}(ts)(h:(dS now W ts)[j]? =Z x):∃aqi,W[j]? =Z aqi/\x.ck=aqi.ck/\x.u=aqi.u/\x.ln=aqi.ln:=by rcases e:W[j]? with _|aqi;rw[DW ts W e]at h;cases h;by_cases hm:j∈ts.filterMap Tk.no;obtain⟨b,z,_,a⟩:=AV ts W aqi hm e;rw[a]at h;grind;rw[tS ts W hm,e]at h;grind
def Yy(k:Ck)(h:k.out.size<=1048576):k.takes 1099511627776={k with out:=⟨#[]⟩}:=by
 unfold Ck.takes Ck.much Ck.take;rw[aI aM,show(min 1099511627776 (k.out.size:Int)).toNat=k.out.size by omega]
 congr 1;refine rG<|BB.1 ?_;rw[AB];exact BR (by rw[lQ];exact aR _)
def eH.take{n:Int}(J:0<=n/\n<=(t+1:Nat))(h:eH g t f c)(N:c.S[i]? =Z s)(E:s.aw=aa)(b:f.Is i sx k):∃a,k.out.data.toList=a.flatMap (iY c.W)/\(∀t∈a,mU i c.W t)/\(a.filterMap Tk.no).Nodup/\eH g (t+1) (f.take sx k 1099511627776) {c.til n with W:=dS n c.W a}:=by
 let⟨un,wq,wf,a,l⟩:=h.Jp N E b;have ho:=(h.rest.core.cl sx k b.at_).1.out;have aS:=(h.rest.core.cl sx k b.at_).2.2;have Vj:=h.rest.core.prom sx;have aQ:=h.rest.core.g.ou;have v:=Yy k Y;have u:=J.1;have aL:=h.dO;let⟨Q,p,R,T⟩:=MA (f.at sx<|k.takes 1099511627776) f.K.length;refine⟨a,l.out,l.tk,(Ca.1 l.nd).2.1,h.is,(h.rest.take b.at_ _).2,Q.trans h.gg,p.trans h.stop,R.trans h.bF,?_,?_,λj x o=>?_,λj P x x' o H he=>?_,h.hd,λw V O G=>?_⟩;have e:(f.take sx k 1099511627776).clock=f.clock:=T;show(f.take sx k 1099511627776).clock<=(t+1:Nat)/\(0<=n/\n<=(t+1:Nat))/\c.S.length<=t+1+8/\(dS n c.W a).length<=t+1/\c.dl<=16;rw[WJ];omega;show(dS n c.W a).length<=c.ck/\c.ck<=60000;rw[WJ];exact h.ck;let⟨q,d,m,B,C⟩:=NG a o;rw[m,B,C];exact h.one j q d;let⟨q,d,m,_⟩:=NG a o;let⟨y',A,aJ,_⟩:=NG a H;exact h.two j P q y' d A Y;by_cases r:w=i;subst r;refine⟨sx,iG.bQ ⟨k.takes 1099511627776,iy (bY.1 b.at_).1,?_,un,wq,wf,[],?_⟩ _⟩;rw[v];exact b.no;rw[v];exact l.takes u U U U U U;let⟨z,p,d,m,ah,aE,an,X,D⟩:=h.aC w V O G;have L:sx≠z:=λe=>by subst e;have:=b.at_;rw[d]at this;cases this;have:=b.no;omega
 exact⟨z,iG.bQ (f:=f.at sx<|k.takes 1099511627776) ⟨p,(gQ L).trans d,m,ah,aE,an,X,D.took (dB r) u l.tk⟩ _⟩
end
section
variable {g:Cf} {t:Nat} {f:Fx} {c:Cw} {i sx:Nat} {s:Sl} {k:Ck} {W:av Wi} {now:Int}
def Fx.Rest.oX(h:f.Rest){s k}(d:f.K[s]? =Z (Z k)):(f.at s k.jd).Rest/\(f.oX s k).Rest:=by
 have b:=(h.core.cl s k d).1;have a:(f.at s k.jd).Rest:=by unfold Ck.jd;split;exact h.put d b U U U U;have j:=h.core.g.qu;have e:=b.out;refine h.put d ⟨⟨by show(0:Int)<=4;decide,by show(4:Int)<=4;decide⟩,b.wt,by show(0:Nat)<=1024;decide,λr hr=>(by cases hr),by show((0:Nat):Int)<=f.g.qu;omega,by show((0:Nat):Int)+k.prom<=f.g.ou;omega,b.tok,b.de,b.sv,b.us⟩ U U U U
 exact⟨a,a.bQ _⟩
def eH.leave(h:eH g t f c)(p:c.S[i]? =Z s)(J:s.aw=aa)(l:f.Is i sx k):(f.at sx k.jd).sn/\eH g (t+1) (f.oX sx k) {c.late with S:=c.S.set i {s with aw:=M}}:=by
 let⟨G,H⟩:=h.rest.oX l.at_;have L:=h.dO;let⟨C,m,D,E⟩:=MA (f.at sx k.jd) f.K.length;refine⟨G.core.stay,h.is,H,C.trans h.gg,m.trans h.stop,?_,?_,h.ck,λj x A=>?_,h.two,λd n a=>?_,λd n a w=>?_⟩;refine D.trans<|h.bF.trans ?_;rw[jB];have e:(f.oX sx k).clock=f.clock:=E;grind;show x.ck<=c.ck/\x.u<(c.S.set i {s with aw:=M}).length/\0<=x.ln/\x.ln<=65535;rw[jB];exact h.one j x A;have a:=a;by_cases b:i=d;subst b;rw[iy ((bY.1 p).1)]at a;cases a;exact h.hd i s p;rw[gQ b]at a;exact h.hd d n a;have a:=a;by_cases b:i=d;subst b;grind;rw[gQ b]at a;let⟨q,m,o,r,v⟩:=h.aC d n a w;have B:sx≠q:=λe=>by subst e;have:=l.at_;rw[o]at this;cases this;have:=l.no;omega
 exact⟨q,iG.bQ (f:=f.at sx k.jd) ⟨m,(gQ B).trans o,r,v⟩ _⟩
def eH.enter{j wt}(h:eH g t f c)(d:f.K[j]? =Z aj)(N:1<=wt/\wt<=4):eH g (t+1) (f.ku j wt) {c.late with S:=c.S++[⟨wt,⟨#[]⟩,aa⟩]}:=by
 have w:=(bY.1 d).1;have hr:(f.ku j wt).Rest:=by
  have:=(h.rest.jV d N).send (iy w) gm;have e:(f.jV j wt).send j (Ck.fresh f.bF wt f.g.bu) gm=(f.ku j wt,0):=by unfold Fx.send;rw[aI acu,aI (show ¬1024<(Ck.fresh f.bF wt f.g.bu).aN.size+gm.size from(by decide:¬1024<(⟨#[]⟩:ByteArray).size+gm.size))];rfl
  rwa [e]at this
 have Q:=h.dO;have r:(f.ku j wt).K=f.K.set j (Z<|(Ck.fresh f.bF wt f.g.bu).send gm):=by show(f.K.set j _).set j _=_;rw[pK]
 have G:∀b∈f.fl,b.s≠j:=λb u e=>by let⟨_,_,_,k,v⟩:=h.rest.core.jb b u;rw[e,d]at v;cases v
 have H:gO f.fl j=[]:=by
  have:∀l:av Jb,(∀b∈l,b.s≠j)->gO l j=[]:=λl=>by
   induction l with
   |nil=>exact λ_=>U
   |cons b l V=>intro u;show(if b.s=j then b.rs else[])++gO l j=[];grind
  exact this _ G
 refine⟨h.is,hr,h.gg,h.stop,?_,?_,h.ck,λp x o=>?_,h.two,λm q a=>?_,λm q a D=>?_⟩;show f.bF+1=(((c.S++[(⟨wt,⟨#[]⟩,aa⟩:Sl)]).length:Nat):Int);rw[fQ,List.length_singleton,h.bF];rfl;show f.clock<=(t+1:Nat)/\(0<=c.now+1/\c.now+1<=(t+1:Nat))/\(c.S++[(⟨wt,⟨#[]⟩,aa⟩:Sl)]).length<=t+1+8/\c.W.length<=t+1/\c.dl<=16;grind;have:=h.one p x o;grind;have a:=a;rw[zH]at a;split at a;exact h.hd m q a;have:=jC a;grind;have a:=a;rw[zH]at a;split at a;let⟨z,P,n,B,C⟩:=h.aC m q a D;have J:j≠z:=λe=>by grind
 exact⟨z,P,by rw[r];exact(gQ J).trans n,B,C⟩;rename_i R;have n:=(bY.1 a).1;simp at n;have A:m=c.S.length:=Y;subst A;refine⟨j,(Ck.fresh f.bF wt f.g.bu).send gm,by rw[r];exact iy w,h.bF,[],[],[],[],az ⟨U,U,U,U⟩,?_,U,?_,U,λt L=>(by cases L),xS,λj d=>(by cases d),λj d=>(by cases d),λx O=>(by cases O),λp x o T _=>?_⟩;show((⟨#[]⟩:ByteArray)++gm).data.toList=_;rfl;show(gO f.fl j).map _=_;rw[H];rfl;have:=(h.one p x o).2.1;omega
end
def DO:∀(n:Nat) (l:av Nat),l.Nodup->(∀x∈l,x<n)->l.length<=n
 |0,l,_,h=>by
  cases l with
  |nil=>exact aR _
  |cons x l=>exact absurd (h x fJ)<|rR _
 |n+1,l,b,h=>by
  by_cases hm:n∈l;have d:=DO n (l.erase n) (b.erase n) λx a=>by grind
  grind;exact Nat.le_succ_of_le (DO n l b λx a=>by have i:=h x a;have j:x≠n:=λe=>hm (e▸a);omega)
def Ni(S:av Sl)(n:Nat):av Nat:=(dA n).filter λi=>match S[i]? with|some s=>!s.aw|none=>aa
def VL(S):∀n,n<=S.length->(Ni S n).length=gU (S.take n)
 |0,_=>rfl|n+1,h=>by
  obtain⟨s,a⟩:∃s,S[n]? =Z s:=⟨_,dj Y⟩;rw[VN a,<-VL S n Y];unfold Ni;rw[uB,zF,fQ]
  congr 1;cases b:s.aw<;>simp[List.filter,a,b]
section
variable {g:Cf} {t:Nat} {f:Fx} {c:Cw}
def eH.dL(h:eH g t f c):∃l:av Nat,l.length=gU c.S/\l.Nodup/\∀x∈l,∃k,f.K[x]? =Z (Z k):=by
 have key:∀L:av Nat,L.Nodup->(∀i∈L,∃s,c.S[i]? =Z s/\s.aw=aa)->∃l:av Nat,l.length=L.length/\l.Nodup/\∀x∈l,∃k i,f.K[x]? =Z (Z k)/\k.no=(i:Nat)/\i∈L:=λL=>by
  induction L with
  |nil=>exact λ_ _=>⟨[],U,xS,λx hx=>by cases hx⟩
  |cons i L H=>intro D j;let⟨b,a⟩:=vV.1 D;let⟨l,v,w,d⟩:=H a λx hx=>j x (gC _ hx);let⟨s,G,A⟩:=j i fJ;let⟨u,k,C,E,_⟩:=h.aC i s G A;refine⟨u::l,by rw[gH,gH,v],vV.2 ⟨λhm=>?_,w⟩,λx hx=>?_⟩;let⟨n,m,o,p,r⟩:=d u hm;grind;rcases jh.1 hx with rfl|hx;exact⟨k,i,C,E,fJ⟩;let⟨n,m,o,p,r⟩:=d x hx;exact⟨n,m,o,p,gC _ r⟩
 let⟨l,b,a,z⟩:=key (Ni c.S c.S.length) (C3.sublist List.filter_sublist) λi B=>(by have a:=(rO.1 B).2;rcases e:c.S[i]? with _|s;rw[e]at a;cases a;rw[e]at a;exact⟨s,rfl,akK⟩);rw[VL _ _<|aR _,pM]at b;exact⟨l,b,a,λx hx=>by let⟨k,_,q,_⟩:=z x hx;exact⟨k,q⟩⟩
def eH.len(h:eH g t f c):(f.K.length:Int)=g.cl:=by have:=h.rest.core.len;rwa [h.gg]at this
def eH.free{j:Nat}(h:eH g t f c)(k:f.K[j]? =Z aj):(gU c.S:Int)<g.cl:=by
 let⟨l,a,b,i⟩:=h.dL
 have d:=DO f.K.length (j::l) (vV.2 ⟨λhm=>by grind,b⟩) λx m=>by grind
 rw[gH,a]at d;have:=h.len;omega
def eH.full(h:eH g t f c)(p:∀i:Nat,f.K[i]? ≠Z aj):(gU c.S:Int)=g.cl\/gU c.S<c.S.length:=by
 have D:=VM c.S;by_cases e:gU c.S<c.S.length;exact az e;refine aA ?_;let⟨l,A,u,B⟩:=h.dL;have C:=DO f.K.length l u λx s=>by grind
 have v:=DO c.S.length ((dA f.K.length).map λx=>match f.K[x]? with|some (Z k)=>k.no.toNat|_=>0) (Fp.2<|List.Pairwise.imp_of_mem (λ{a b} m z w n=>?_) C3) λx s=>by obtain⟨a,m,rfl⟩:=jY.1 s;have q:=nD.1 m;rcases d:f.K[a]? with _|o;rw[dj q]at d;cases d;rcases o with _|k;exact absurd d<|p a;have:=h.rest.core.lI a k d;have:=h.bF;show k.no.toNat<_;omega
 rw[pI,List.length_range]at v;have:=h.len;omega;rcases d:f.K[a]? with _|o;rw[dj (nD.1 m)]at d;cases d;rcases o with _|k;exact p a d;cases j:f.K[b]? with
 |none=>rw[dj<|nD.1 z]at j;cases j
 |some o=>
  cases o with
  |none=>exact p b j
  |some r=>rw[d,j]at n;have n:k.no.toNat=r.no.toNat:=n;have E:=h.rest.core.lI a k d;have G:=h.rest.core.lI b r j;exact w<|h.rest.core.one a b k r d j Y
end
def Fx.Host.bU{g f wt}{n:Nat}(hI:g.Is)(h:f.Host g wt n)(o:(n:Int)<=g.cl):eH g 0 f (nV wt n):=by
 have c:(nV wt n).S.length=n:=ay;have m:=hI.cl;have at_:∀{i:Nat} {s:Sl},(nV wt n).S[i]? =Z s->i<n/\s=⟨wt i,⟨#[]⟩,aa⟩:=λ{i s} b=>by grind
 refine⟨hI,h.rest,h.gg,h.stop,by rw[c];exact h.bF,?_,⟨aR 0,cO _⟩,λj r a=>M3,λj p r q a=>M3,λi s b=>by rw[(at_ b).2],λi s b _=>?_⟩;rw[c];have l:=h.clock;refine⟨Y,⟨fI 0,fI 0⟩,Y,aR 0,by show(1:Int)<=16;decide⟩;refine⟨i,(Ck.fresh i (wt i) g.bu).send gm,h.uX i ((at_ b).1),U,[],[],[],[],az ⟨U,U,U,U⟩,?_,U,?_,U,λt e=>A6,xS,λj a=>M3,λj a=>M3,λx k=>(by cases k),λj x a=>M3⟩;show((⟨#[]⟩:ByteArray)++gm).data.toList=_;rfl;rw[h.idle.2.1];rfl
def Fx.Small(f:Fx):Prop:=∀t:Nat,pW f.K[t]? <=f.g.mx.toNat+if t=f.aC/\f.opn=M then 4*f.g.qn.toNat else 0
structure lz(m:Int)(f:Fx)(s:Nat)(r:Rq):Prop where
 sat:∃k,f.K[s]? =Z (Z k)/\k.fst=r/\k.room f.g=M
 lt:r.no<m
 min:∀(t:Nat) k,f.K[t]? =Z (Z k)->k.room f.g=M->r.no<=k.fst.no
section
variable {g:Cf} {m:Int} {k k1 k':Ck} {f f':Fx} {s:Nat} {r:Rq}
def GN(h:k.q≠[]):k.fst∈k.q:=by unfold Ck.fst;grind
def lz.pick(e:f.Ord):∀(n t:Nat) (k:Ck),f.K[t]? =Z (Z k)->k.room f.g=M->k.fst.no<m->k.fst.no.toNat<=n->∃s r,lz m f s r
 |n,t,k,i,hr,hm,l=>by
  by_cases h:∃(a:Nat) (k':Ck),f.K[a]? =Z (Z k')/\k'.room f.g=M/\k'.fst.no<k.fst.no;obtain⟨a,k',b,c,d⟩:=h;have j:=((e a k' b).2 _ (GN<|IJ c)).1;cases n with
  |zero=>omega
  |succ n=>exact lz.pick e n a k' b c Y Y
  exact⟨t,k.fst,⟨k,i,U,hr⟩,hm,λa k' b c=>Int.not_lt.1 λd=>h ⟨a,k',b,c,d⟩⟩
def om(a:f.K[s]? =Z (Z k)):f.cA m s=k.cA f.g m:=by show AN f.g m f.K[s]? =_;rw[a];rfl
def ij.same(h:ij m f f')(e:wG m f f')(n:f.K.length<=8){t:Nat}(c:f'.K[t]? =Z (Z k'))(i:k'.old m≠[]):∃k,f.K[t]? =Z (Z k)/\k'.old m=k.old m/\k'.room f.g=k.room f.g:=by rcases h.K t k' c with a|⟨k,a,d⟩;exact absurd a i;have o:=(bY.1 a).1;have b:=e t Y;rw[om c,om a,h.g]at b;let⟨j,l⟩:=d.cA.2 b;exact⟨k,a,j,l j4⟩
def lz.follow(T:lz m f s r)(h:ij m f f')(e:wG m f f')(u:f.K.length<=8)(x:f.Ord)(z:f'.Ord):lz m f' s r:=by
 let⟨k,i,v,hr⟩:=T.sat;have G:=(bY.1 i).1;have c:1<=f'.cA m s:=by rw[(e s Y),om i];exact Nf (DV (IJ hr) (by rw[v];exact T.lt))
 have n:∀{k k':Ck} {a b:Int},k.Ord a->k'.Ord b->k'.old m≠[]->k'.old m=k.old m->k'.fst=k.fst:=λc C p q=>by have a1:=(C.head p).2.2;rw[q,(c.head (q▸p)).2.2]at a1;exact(ey a1).symm
 refine⟨?_,T.lt,λt k' w A=>Int.not_lt.1 λD=>?_⟩;rcases e2:f'.K[s]? with _|o;rw[Fx.cA,e2]at c;cases c;rcases o with _|k';rw[Fx.cA,e2]at c;cases c;have d:k'.old m≠[]:=λB=>by rw[om e2,DH B]at c;cases c
 let⟨l,a1,j,a3⟩:=h.same e u e2 d;rw[i]at a1;cases a1;exact⟨k',U,(n (x s k i) (z s k' e2) d j).trans v,by rw[h.g,a3];exact hr⟩;have d:=DV (m:=m) (IJ A) (by have:=T.lt;omega);let⟨l,a1,j,a3⟩:=h.same e u w d;have:=T.min t l a1 (by rw[<-a3,<-h.g];exact A);rw[(n (x t l a1) (z t k' w) d j)]at D;omega
def lz.free(T:lz m f s r)(l:∀b∈f.fl,b.rs.any (r.touch ·)=aa)(i:f.K[s]? =Z (Z k))(a:0<k.tok):f.free k=M:=by
 let⟨n,d,h,hr⟩:=T.sat;rw[i]at d;cases d;unfold Fx.free;rw[Og,hr,h];have:f.held r=aa:=by
  unfold Fx.held;rw[Zv,vM,vM];refine⟨λb e=>by rw[l b e];simp,λo j=>?_⟩;rcases o with _|x;simp;let⟨t,a⟩:=pJ.1 j;cases c:x.eM f.g with
  |false=>simp[c]
  |true=>rw[Og,cQ]at c;have:=T.min t x a c.2;simp;omega
 rw[this];simp[a]
def Us{t}:∀(n:Nat) (k:Ck) (a:av Rq),(∀r∈k.q,0<=cw r.m)->(f.eK t n k a).1.de<=k.de
 |0,k,a,_=>fI _|n+1,k,a,h=>by
  unfold Fx.eK;split;·rename_i b;have d:=h _ (GN (Iw (Fx.RM b).1));have:=Us (t:=t) n k.next (a++[k.fst]) λr hr=>h r (Kr hr);have e:k.next.de=k.de-cw k.fst.m:=U;omega
  exact fI _
def UR{x t}(a:f.K[s]? =Z (Z k))(hr:k.eM f.g=M)(b:s≠t)(k1)(h:(f.at t k1).held x=aa)(d:k.fst.no<x.no):k.fst.touch x=aa:=by unfold Fx.held at h;rw[Zv,vM,vM]at h;have c:=h.2 (Z k) (jC (show(f.K.set t<|Z k1)[s]? =Z (Z k) by rw[gQ<|dB b];exact a));grind
def Ut{t}(d:f.K[s]? =Z (Z k1))(hr:k1.eM f.g=M)(e:s≠t):∀(n:Nat) (k:Ck) (a:av Rq),(∀x∈a,k1.fst.no<x.no->k1.fst.touch x=aa)->∀x∈(f.eK t n k a).2,k1.fst.no<x.no->k1.fst.touch x=aa
 |0,k,a,h=>h|n+1,k,a,h=>by
  unfold Fx.eK;split;·rename_i b;refine Ut d hr e n k.next _ λx hx c=>?_;rcases jg.1 hx with hx|hx;exact h x hx c;rw[iz.1 hx]at c⊢;unfold Fx.along Fx.free at b;simp only[cQ,uk]at b;exact UR d hr e k b.1.2 c
  exact h
end
section
variable {g:Cf} {m a:Int} {k k1 k':Ck} {f f':Fx} {s:Nat} {r:Rq} {l:av Rq}
def ij.set(e:f.K[s]? =Z (Z k))(d:f'.g=f.g)(c:f'.K=f.K.set s (Z k'))(h:nL f.g m k k'):ij m f f':=by refine⟨d,by rw[c,jB],λt x b=>?_⟩;rw[c]at b;rcases oy b with⟨rfl,rfl⟩|⟨_,b⟩;exact az ⟨k,e,h⟩;exact az ⟨x,b,.refl x⟩
def Fx.Ord.set(e:f.Ord)(c:f'.K=f.K.set s (Z k'))(d:f'.acc=f.acc)(h:k'.Ord f.acc):f'.Ord:=λt x b=>by rw[c]at b;rw[d];rcases oy b with⟨rfl,rfl⟩|⟨_,b⟩;exact h;exact e t x b
def qK.jq(h:qK k l k')(c:k.Ord a)(hl:l≠[]):nL g m k k'/\k'.Ord a/\(k.old m≠[]->k'.cA g m<k.cA g m):=by
 have i:=h.q;have e:k.old m=l.filter (λr=>decide (r.no<m))++k'.old m:=by unfold Ck.old;rw[i,zF]
 have h0:k.old m≠[]->l.filter (λr=>decide (r.no<m))≠[]:=λb=>by
  let⟨_,o,_⟩:=c.head b;let⟨x,t,j⟩:=Fe hl;have d:k.fst=x:=by unfold Ck.fst;rw[i,j];rfl
  grind
 have hF:nL g m k k':=⟨_,e,λn b _=>absurd n (h0 j4)⟩;refine⟨hF,⟨?_,λr hr=>c.2 r j4⟩,λb=>?_⟩;have:=c.1;grind;refine Nat.lt_of_le_of_ne hF.cA.1 λd=>h0 b ?_;rw[((hF.cA.2 d).1)]at e;exact BP (bs:=k.old m) j4
def SR{g}{r:Rq}(b:g.Is)(h:r.Gd g):4<=cw r.m:=by have:=h.of;have:=h.ln;unfold cw;split<;>omega
def Mb(b:f.K[s]? =Z (Z k)):pW f.K[s]? =k.de.toNat:=by rw[b];rfl
def Mc{K:av (aV Ck)}(t)(h:s<K.length):pW (K.set s<|Z k')[t]? =if t=s then k'.de.toNat else pW K[t]? :=by rw[rM];by_cases e:s=t;rw[aO e,aO h,aO e.symm];rfl;rw[aI e,aI<|dB e]
structure Lv(m:Int)(f f':Fx):Prop where
 K:∃k k',f.K[f.aC]? =Z (Z k)/\f'.K=f.K.set f.aC (Z k')/\(k'.de.toNat:Int)+4<=(if f.opn=M then k.de else k.de+k.wt*f.g.qn)/\1<=k.wt/\k.wt<=4/\(k.old m≠[]->k'.cA f.g m<k.cA f.g m)
 opn:f'.opn=M
 small:f'.Small
 lE:∃b,b.s=f.aC/\b∈f'.fl/\(∀x∈f'.fl,x=b\/x∈f.fl)/\∀(s:Nat) k1,f.K[s]? =Z (Z k1)->k1.eM f.g=M->s≠f.aC->(∀k,f.K[f.aC]? =Z (Z k)->∀x∈k.q,k1.fst.no<x.no)->b.rs.any (k1.fst.touch ·)=aa
def PG(h:f.mw)(u:f.Ord)(D:f.Small):ij m f f.bg.1/\f.bg.1.Ord/\f.bg.1.acc=f.acc/\(f.bg.2=aa->f.bg.1.pass.Small/\∀(t:Nat) k',f.bg.1.K[t]? =Z (Z k')->∃k,f.K[t]? =Z (Z k)/\k'.tok=k.tok)/\(f.bg.2=M->Lv m f f.bg.1):=by
 have d:=h.core;have af:=d.aC;by_cases e:∃k,f.K[f.aC]? =Z (Z k)
 ·let⟨k,c⟩:=e;let⟨a1,a2,a3,a4,a5,a6,v⟩:=d.Jq c;have bC:=d.g.qn;have bA:=d.g.mx;have N:=D f.aC;rw[Mb c]at N;have V:=(d.cl _ k c).1;have bu:=V.de;have an:=V.wt;have bz:0<=k.wt*f.g.qn/\k.wt*f.g.qn<=4*f.g.qn:=by have e4:k.wt=1\/k.wt=2\/k.wt=3\/k.wt=4:=Y;rcases e4 with e|e|e|e<;>rw[e]<;>omega
  have E:(f.aT k).de=(if f.opn=M then k.de else k.de+k.wt*f.g.qn)/\(f.aT k).out=k.out/\(f.aT k).prom=k.prom:=by unfold Fx.aT;split<;>exact⟨U,U,U⟩
  have bD:(f.aT k).de<=f.g.mx+4*f.g.qn/\0<=(f.aT k).de:=by rw[E.1];split;rename_i G;rw[aO ⟨U,G⟩]at N;omega;rename_i G;rw[aI<|λx=>G x.2]at N;omega
  have z:nL f.g m k (f.aT k):=Mr v (by rw[E.2.1,E.2.2];exact fI _);have L:(f.aT k).Ord f.acc:=by have:=u _ k c;unfold Ck.Ord at*;rw[v];exact this
  have W:∀{f':Fx} {k':Ck},f'.g=f.g->f'.K=f.K.set f.aC (Z k')->k'.de<=f.g.mx->f'.pass.Small:=λ{f' k'} hg hK hd t=>by
   show pW f'.K[t]? <=f'.g.mx.toNat+if t=f'.pass.aC/\aa=M then 4*f'.g.qn.toNat else 0
   rw[aI ay,hK,hg,Mc t af];split;omega;rename_i aX;have:=D t;rwa [aI<|λx=>aX x.1]at this
  have ah:∀{k'':Ck} {t:Nat} {k':Ck},k''.tok=k.tok->(f.K.set f.aC<|Z k'')[t]? =Z (Z k')->∃k,f.K[t]? =Z (Z k)/\k'.tok=k.tok:=λe b=>by rcases oy b with⟨rfl,rfl⟩|⟨_,b⟩;exact⟨k,c,e⟩;exact⟨_,b,rfl⟩
  have ak:(f.aT k).tok=k.tok:=by unfold Fx.aT;split<;>rfl
  rw[Bs c];split
  ·rename_i j;have hr:=Dp j;have X:=Iw hr;have S:=a1.q _ (GN X);split
   ·rename_i O;let⟨l,g1,g2⟩:=GR (f:=f.turned k) (s:=f.aC) (f.aT k).next.q.length (f.aT k).next [(f.aT k).fst]
    have T:=(MC X).trans g2;have bw:=Us (f:=f.turned k) (t:=f.aC) (f.aT k).next.q.length (f.aT k).next [(f.aT k).fst] λr hr=>by have:=SR d.g (a1.q r<|Kr hr);omega
    have bB:(f.aT k).next.de=(f.aT k).de-cw (f.aT k).fst.m:=U;have Q:=SR d.g S;have bq:=(My (s:=f.aC) (f:=f.turned k) d.g (f.aT k).next.q.length (f.aT k).next [(f.aT k).fst]<|uK.first d.g a1 hr O).uX.de;have aN:∀(s:Nat) k1,f.K[s]? =Z (Z k1)->k1.eM f.g=M->s≠f.aC->∀x∈((f.turned k).eK f.aC (f.aT k).next.q.length (f.aT k).next [(f.aT k).fst]).2,k1.fst.no<x.no->k1.fst.touch x=aa:=λs k1 H w p=>by
     have P:(f.turned k).K[s]? =Z (Z k1):=by show(f.K.set _ _)[s]? =_;rw[gQ<|dB p];exact H
     refine Ut (f:=f.turned k) P w p _ _ _ λx b C=>?_;rw[iz.1 b]at C⊢;have aE:(f.turned k).held (f.aT k).fst=aa:=by unfold Fx.free at j;simp at j;exact j.2
     have e5:(f.turned k).at f.aC (f.aT k)=f.turned k:=by show{f.turned k with K:=(f.K.set f.aC<|Z<|f.aT k).set f.aC<|Z<|f.aT k}=f.turned k;rw[pK];rfl
     exact UR (f:=f.turned k) P w p (f.aT k) (by rw[e5];exact aE) C
    have B:((f.turned k).gN f.aC<|f.aT k).K=f.K.set f.aC (Z ((f.turned k).eK f.aC (f.aT k).next.q.length (f.aT k).next [(f.aT k).fst]).1):=by show(f.K.set f.aC _).set f.aC _=_;rw[pK]
    have R:((f.turned k).gN f.aC<|f.aT k).fl=fP ⟨f.aC,((f.turned k).eK f.aC (f.aT k).next.q.length (f.aT k).next [(f.aT k).fst]).2,(f.turned k).dG,(f.turned k).clock+(f.turned k).dG.delay,(f.turned k).bO⟩ f.fl:=U;have bh:∀x∈((f.turned k).eK f.aC (f.aT k).next.q.length (f.aT k).next [(f.aT k).fst]).2,x∈k.q:=λx b=>by rw[g1]at b;rw[<-v,T.q];exact Fl _ b
    have J:=T.jq (g:=f.g) (m:=m) L ay;refine⟨.set c U B<|z.trans J.1,u.set B U J.2.1,U,λi=>(by cases i),λ_=>⟨⟨k,_,c,B,?_,an.1,an.2,λhn=>?_⟩,U,λt=>?_,_,U,by rw[R];exact yL.2 (aA U),λx b=>by rw[R]at b;exact yL.1 b,λs k1 H w p Q=>?_⟩⟩;rw[<-E.1];omega;have aW:(f.aT k).old m≠[]:=by unfold Ck.old at*;rw[v];exact hn
    exact cS (J.2.2 aW) z.cA.1;show pW ((f.turned k).gN f.aC<|f.aT k).K[t]? <=f.g.mx.toNat+if t=f.aC/\M=M then 4*f.g.qn.toNat else 0
    rw[B,Mc t af];split;rename_i n;rw[aO ⟨n,U⟩];omega;rename_i n;have:=D t;rw[aI<|λx=>n x.1]at this;omega;rw[vM];intro x b;rw[aN s k1 H w p x b<|Q k c x<|bh x b];simp
   rename_i O;have C:(f.aT k).de<=f.g.mx:=by have:=S.cost d.g;omega
   exact⟨.set c U U z,u.set U U L,U,λ_=>⟨W (f':=f.turned k) U U C,λt k' b=>ah ak b⟩,λi=>by cases i⟩
  have A:((f.turned k).at f.aC (f.aT k).lose).K=f.K.set f.aC (Z (f.aT k).lose):=by show(f.K.set f.aC _).set f.aC _=_;rw[pK]
  exact⟨.set c U A<|z.trans<|Mr U<|fI _,u.set A U L,U,λ_=>⟨W (f':=(f.turned k).at f.aC (f.aT k).lose) U A (by show(0:Int)<=_;omega),λt k' b=>ah (k'':=(f.aT k).lose) ak (by rw[<-A];exact b)⟩,λi=>by cases i⟩
 rw[Js λk c=>e ⟨k,c⟩];refine⟨.refl f,u,U,λ_=>⟨λt=>?_,λt k' b=>⟨k',b,U⟩⟩,λi=>by cases i⟩;show pW f.K[t]? <=f.g.mx.toNat+if t=f.pass.aC/\aa=M then 4*f.g.qn.toNat else 0
 rw[aI ay];by_cases n:t=f.aC;have:pW f.K[t]? =0:=by rw[n];rcases j:f.K[f.aC]? with _|o;rfl;rcases o with _|k;rfl;exact absurd ⟨k,j⟩ e
 omega;have:=D t;rwa [aI<|λx=>n x.1]at this
end
def off(N s t:Nat):Nat:=if s<=t then t-s else t+N-s
def Fx.cap(f:Fx)(m:Int)(d t:Nat):Nat:=if t<f.K.length/\off f.K.length f.aC t<d/\f.cA m t=0 then(if t=f.aC/\f.opn=M then pW f.K[t]? / 4 else(5*f.g.qn).toNat / 4)else 0
def Fx.path(f:Fx)(m:Int)(d:Nat):Nat:=qz (f.cap m d)
def Way(f:Fx)(s d:Nat):Prop:=s<f.K.length/\d<=f.K.length/\(off f.K.length f.aC s=d\/(d=f.K.length/\s=f.aC))/\(d=0->f.opn=aa)
section
variable {m:Int} {k k':Ck} {f f1:Fx} {s d:Nat} {r:Rq}
def akb(a:s<f.K.length)(h:f.aC<f.K.length):∃d,Way f s d:=by
 by_cases e:s=f.aC;cases b:f.opn with
 |true=>exact⟨f.K.length,a,aR _,az ⟨U,e⟩,λh=>by omega⟩
 |false=>exact⟨0,a,cO _,aA (by unfold off;rw[aO Y];omega),λ_=>b⟩
 refine⟨off f.K.length f.aC s,a,?_,aA U,λh=>?_⟩;unfold off;split<;>omega;unfold off at h;split at h<;>omega
def Ww{N s}(h:s<N):((s+1)%N=s+1/\s+1<N)\/((s+1)%N=0/\s+1=N):=by rcases lq (s+1) N with h1|h1;exact aA ⟨Nat.mod_eq_of_lt h1,h1⟩;have e:s+1=N:=Y;exact az ⟨by rw[e,Nat.mod_self],e⟩
def Way.pass(h:Way f s (d+1))(g:f.aC<f.K.length)(c:f1.K.length=f.K.length)(e:f1.aC=f.aC):Way f1.pass s d:=by let⟨a1,i,a3,j⟩:=h;refine⟨by show s<f1.K.length;omega,by show d<=f1.K.length;omega,aA ?_,λ_=>U⟩;show off f1.K.length ((f1.aC+1)%f1.K.length) s=d;rw[c,e];unfold off at*;rcases Ww g with⟨a,b⟩|⟨a,b⟩<;>rw[a]<;>split at a3<;>split<;>omega
def aeY(n:f.aC<f.K.length)(q:f.K.length<=8)(hd:d+1<=f.K.length)(h:f1.K.length=f.K.length)(i:f1.aC=f.aC)(l:f1.g=f.g)(he:wG m f f1):f1.pass.path m d<=f.path m (d+1):=by
 refine Pf λt=>?_;unfold Fx.cap;show(if t<f1.K.length/\off f1.K.length ((f1.aC+1)%f1.K.length) t<d/\f1.cA m t=0 then(if t=(f1.aC+1)%f1.K.length/\aa=M then pW f1.K[t]? / 4 else(5*f1.g.qn).toNat / 4)else 0)<=_;rw[h,i,l];split;rename_i j;let⟨o,a,c⟩:=j;rw[he t Y]at c;have p:t≠f.aC/\off f.K.length f.aC t<d+1:=by unfold off at*;rcases Ww n with⟨b,e⟩|⟨b,e⟩<;>rw[b]at a<;>split at a<;>split<;>omega
 grind;exact cO _
def aeV(i:f.g.Is)(b:f.Small)(a:f.aC<f.K.length)(v:f.K.length<=8)(hd:1<=d)(o:f1.aC=f.aC)(p:f1.g=f.g)(he:wG m f f1)(W:Lv m f f1)(hl:f.cA m f.aC=0)(q:∀k,f.K[f.aC]? =Z (Z k)->0<=k.de):f1.path m d+1<=f.path m d:=by
 let⟨k,k',c,u,B,C,D,_⟩:=W.K;have n:f1.K.length=f.K.length:=j4;have h:∀t,f1.cap m d t=if t<f.K.length/\off f.K.length f.aC t<d/\f1.cA m t=0 then(if t=f.aC then k'.de.toNat / 4 else(5*f.g.qn).toNat / 4)else 0:=λt=>by unfold Fx.cap;rw[n,o,p,W.opn,u,Mc t a];by_cases e:t=f.aC;simp[e];simp[e]
 have A:=i.qn;have z:=i.mx;have j:off f.K.length f.aC f.aC<d:=by unfold off;rw[aO<|aR _];omega
 have b:=b f.aC;rw[Mb c]at b;have w:=q k c;have x:k.wt*f.g.qn<=4*f.g.qn:=by have l:k.wt=1\/k.wt=2\/k.wt=3\/k.wt=4:=Y;rcases l with e|e|e|e<;>rw[e]<;>omega
 have key:f1.cap m d f.aC+1<=f.cap m d f.aC:=by rw[h];unfold Fx.cap;rw[aO ⟨a,j,(he _ Y).trans hl⟩,aO U,aO ⟨a,j,hl⟩,Mb c];grind
 refine xG (λt=>?_) Y key;by_cases e:t=f.aC;rw[e];omega;rw[h];unfold Fx.cap;grind
def ajF(h:f.mw)(a:f.K[f.aC]? =Z (Z k))(i:f.free k=M)(t:f.opn=aa):f.bg.2=M:=by
 have b:=(h.core.cl _ k a).1;have o:(f.turned k).free (f.aT k)=M:=by rw[<-i];exact abr U U (adp a<|YI f k)<|YI f k
 let⟨r,l,z,p,_⟩:=yT (Dp i);have u:=(b.q r j4).cost h.core.g;have A:=h.core.g.qn;have x:=h.core.g.mx;have v:=b.de;have B:=b.wt;have w:f.g.qn<=k.wt*f.g.qn:=by have n:k.wt=1\/k.wt=2\/k.wt=3\/k.wt=4:=Y;rcases n with e|e|e|e<;>rw[e]<;>omega
 have c:f.aT k=k.open f.g:=by unfold Fx.aT;rw[t];rfl
 have j:(f.aT k).fst=r:=by rw[c];exact p
 rw[Bs a,aO o,aO];rw[j,c];show cw r.m<=k.de+k.wt*f.g.qn;omega
end
def Fx.Open(f:Fx):Prop:=f.opn=M->∃b∈f.fl,b.s=f.aC
def CK(f:Fx)(r:Rq):Prop:=∀b∈f.fl,b.rs.any (r.touch ·)=aa
section
variable {m:Int} {k k1 k':Ck} {f f1:Fx} {s d:Nat} {r:Rq}
def ij.pass(f):ij m f f.pass:=⟨U,U,λt k h=>az ⟨k,h,.refl k⟩⟩
def zh:∀(n p:Nat) (f:Fx),f.mw->f.Ord->f.Small->ij m f (Fx.turns n p f)/\(Fx.turns n p f).Ord/\(Fx.turns n p f).Small/\(Fx.turns n p f).acc=f.acc/\(f.Open\/(0<n/\(f.fl.length:Int)<f.g.wk/\(p:Int)<=f.g.cl)->(Fx.turns n p f).Open)
 |0,p,f,h,a,c=>⟨.refl f,a,c,U,λx=>x.resolve_right λz=>by omega⟩|n+1,p,f,h,a,c=>by
  obtain⟨u,v,w,B,C⟩:=PG h a c;unfold Fx.turns;split;rename_i i;cases e:f.bg.2 with
  |true=>rw[aO U];have W:=C e;obtain⟨b,b1,A,_⟩:=W.lE;obtain⟨j,l,o,q,t⟩:=zh n 0 _ (vw.used f h i.1 e) v W.small;exact⟨u.trans j,l,o,q.trans w,λ_=>t (aA λ_=>⟨b,A,b1.trans (xI f).2.2.1.symm⟩)⟩
  |false=>rw[aI aM];obtain⟨j,l,o,q,t⟩:=zh n (p+1) _ (vw.pass f h e) v (B e).1;exact⟨(u.trans<|.pass _).trans j,l,o,q.trans w,λ_=>t (aA λx=>by cases x)⟩
  rename_i i;exact⟨.refl f,a,c,U,λx=>x.resolve_right λz=>i z.2⟩
def lz.len(T:lz m f s r):s<f.K.length:=by let⟨k,a,_⟩:=T.sat;exact(bY.1 a).1
def lz.acU(T:lz m f s r)(c:f.K[s]? =Z (Z k)):k.old m≠[]:=by let⟨e,a,b,hr⟩:=T.sat;rw[c]at a;cases a;exact DV (IJ hr) (by rw[b];exact T.lt)
def lz.used(T:lz m f s r)(h:f.mw)(J:f.Ord)(A:∀k,f.K[s]? =Z (Z k)->0<k.tok)(W:Lv m f f1)(u:f1.g=f.g)(e:wG m f f1):s≠f.aC/\f.cA m f.aC=0/\f1.K[s]? =f.K[s]? /\∀b∈f1.fl,b∈f.fl\/b.rs.any (r.touch ·)=aa:=by
 let⟨k,k',a,C,O,P,Q,D⟩:=W.K;have H:=h.core.small;have L:=h.core.aC;have v:f1.K[f.aC]? =Z (Z k'):=j4;have i:=ny λz=>by have q:=e f.aC Y;rw[om v,om a,u]at q;have:=D z;omega
 have c:s≠f.aC:=λt=>T.acU (t▸a) i;refine⟨c,by rw[om a,DH i],by rw[C,gQ<|dB c],λb hb=>?_⟩;let⟨E,b1,G,o,p⟩:=W.lE;rcases o b hb with rfl|hb;let⟨k1,n,j,hr⟩:=T.sat;refine az ?_;rw[<-j];refine p s k1 n (by rw[Og,hr];simp[A k1 n]) c λN l x B=>?_;rw[a]at l;cases l;have hm:¬x.no<m:=λw=>by have:=Ff.1 i x B;simp[w]at this
 have:=T.lt;rw[j];omega;exact aA hb
def GF{aqc}(a:ij m f f1)(b:ij m f1 aqc)(e:f.dH m<=aqc.dH m):wG m f f1/\f1.dH m<=aqc.dH m:=by have:=a.dH;have:=b.dH;exact⟨a.calm Y,Y⟩
def Pz:∀(n p:Nat) (f:Fx),f.mw->f.Ord->f.Small->lz m f s r->(∀k,f.K[s]? =Z (Z k)->0<k.tok)->f.dH m<=(Fx.turns n p f).dH m->∀b∈(Fx.turns n p f).fl,b∈f.fl\/b.rs.any (r.touch ·)=aa
 |0,p,f,h,l,B,T,q,e=>λb c=>aA c|n+1,p,f,h,l,B,T,q,e=>by
  obtain⟨t,i,N,w,z⟩:=PG (m:=m) h l B;unfold Fx.turns at e⊢;split;rename_i A;rw[aO A]at e;cases a:f.bg.2 with
  |true=>rw[a,aO U]at e;rw[aO U];have j:=vw.used f h A.1 a;let⟨o,u⟩:=GF t (zh n 0 _ j i (z a).small).1 e;let⟨J,L,G,H⟩:=T.used h l q (z a) t.g o;intro b c;rcases Pz n 0 _ j i (z a).small (T.follow t o h.core.small l i) (λk v=>q k (G▸v)) u b c with h1|h1;exact H b h1;exact az h1
  |false=>rw[a,aI aM]at e;rw[aI aM];have j:=vw.pass f h a;have C:=t.trans (.pass (m:=m) _);let⟨o,u⟩:=GF C (zh n (p+1) _ j i (w a).1).1 e;intro b c;have:=Pz n (p+1) _ j i (w a).1 (T.follow C o h.core.small l i) (λk v=>by let⟨E,a1,D⟩:=(w a).2 s k v;rw[D];exact q E a1) u b c;exact this.imp (λx=>(xI f).2.2.2.2 a▸x) id
  exact λb c=>aA c
def PD:∀(n p d:Nat) (f:Fx),f.mw->f.Ord->f.Small->lz m f s r->(∀k,f.K[s]? =Z (Z k)->0<k.tok)->CK f r->Way f s d->(p:Int)+d<=f.g.cl->f.fuel p<=n->f.dH m<=(Fx.turns n p f).dH m->
  f.g.wk<=((Fx.turns n p f).fl.length:Int)/\∃q,Way (Fx.turns n p f) s q/\(Fx.turns n p f).path m q+(Fx.turns n p f).fl.length<=f.path m d+f.fl.length
 |0,p,d,f,h,w,L,T,j,C,i,hp,P,e=>by exfalso;unfold Fx.fuel at P;have:f.g.cl.toNat+1-p=0:=Y;omega
 |n+1,p,d,f,h,w,L,T,j,C,i,hp,P,e=>by
  let⟨G,o,u3,O,u5⟩:=PG (m:=m) h w L;let⟨D,z,E,s4,R⟩:=xI f;have B:=h.core.small;have N:=h.core.aC;have aQ:=h.core.len;unfold Fx.turns at e⊢;split;rename_i v;rw[aO v]at e;cases a:f.bg.2 with
  |true=>
   rw[a,aO U]at e;rw[aO U];have u:=vw.used f h v.1 a;have W:=u5 a;let⟨l,H⟩:=GF G (zh n 0 _ u o W.small).1 e;let⟨q1,q2,q3,q4⟩:=T.used h w j W G.g l;have hd:1<=d:=Nat.one_le_iff_ne_zero.2 λX=>by let⟨_,_,A,_⟩:=i;unfold off at A;split at A<;>omega
   have aS:=aeV h.core.g L N B hd E D l W q2 λk c=>(h.core.cl _ k c).1.de;let⟨x,q,Q,i3⟩:=PD n 0 d _ u o W.small (T.follow G l B w o) (λk c=>j k (q3▸c)) (λb J=>(q4 b J).elim (C b) id) ⟨by rw[z];exact i.1,by rw[z];exact i.2.1,by rw[z,E];exact i.2.2.1,λX=>by omega⟩ j4 (by have:=GQ (p:=p) v.1 a;omega) H;grind
  |false=>
   rw[a,aI aM]at e;rw[aI aM];have u:=vw.pass f h a;have S:=G.trans (.pass (m:=m) _);let⟨l,H⟩:=GF S (zh n (p+1) _ u o (O a).1).1 e;cases d with
   |zero=>
    exfalso;let⟨_,_,A,w4⟩:=i;have es:s=f.aC:=by unfold off at A;split at A<;>omega
    let⟨k,c,_⟩:=T.sat;have:=ajF h (es▸c) (T.free C c<|j k c) (w4 U);grind
   |succ d=>let⟨x,q,Q,i3⟩:=PD n (p+1) d _ u o (O a).1 (T.follow S l B w o) (λk c=>by let⟨k0,a1,V⟩:=(O a).2 s k c;rw[V];exact j k0 a1) (λb J=>C b (R a▸J)) (i.pass N z E) (by show((p+1:Nat):Int)+d<=f.bg.1.g.cl;rw[D];omega) (by have:=GP (p:=p) v.2 a;omega) H;have x:f.bg.1.g.wk<=_:=x;rw[D]at x;have aT:=aeY (f1:=f.bg.1) N B i.2.1 z E D (λt j=>l t j);have i4:f.bg.1.pass.fl.length=f.fl.length:=cG BU (R a);exact⟨x,q,Q,Y⟩
  rename_i v;exact⟨Y,d,i,aR _⟩
end
structure Fx.Fair(f:Fx):Prop where
 rest:f.Rest
 ord:f.Ord
 small:f.Small
 opn:f.Open
section
variable {m:Int} {k k':Ck} {f f':Fx} {s d:Nat} {r:Rq}
def jF.sm(h:jF m f f')(a:f.Small):f'.Small:=λt=>by rw[h.jq.g,h.aC,h.opn];exact cM (h.de t)<|a t
def jF.way(h:jF m f f')(a:Way f s d):Way f' s d:=by unfold Way;rwa [h.jq.len,h.aC,h.opn]
def jF.path(h:jF m f f')(b:f.K.length<=8)(e:wG m f f'):f'.path m d<=f.path m d:=by refine Pf λt=>?_;unfold Fx.cap;rw[h.jq.len,h.aC,h.opn,h.jq.g];split;rename_i a;rw[aO (⟨a.1,a.2.1,(e t Y).symm.trans a.2.2⟩:t<f.K.length/\off f.K.length f.aC t<d/\f.cA m t=0)];split;exact Nat.div_le_div_right<|h.de t;exact aR _;exact cO _
def TO:∀(n:Nat) (f:Fx),∃l,f.fl=l++(Fx.fin n f).fl
 |0,f=>⟨[],U⟩|n+1,f=>by unfold Fx.fin;split;exact⟨[],U⟩;rename_i b r e;split;obtain⟨l,h⟩:=TO n (({f with fl:=r}:Fx).does b);rw[(uR _ _).1]at h;exact⟨b::l,by rw[e];exact cG (b::·) h⟩;exact⟨[],U⟩
def PC:∀(n p:Nat) (f:Fx),(Fx.turns n p f).fl=f.fl\/f.fl.length<(Fx.turns n p f).fl.length
 |0,p,f=>.inl U|n+1,p,f=>by
  obtain⟨_,_,_,b,c⟩:=xI f;unfold Fx.turns;split;cases a:f.bg.2 with
  |true=>rw[aO U];have:=b a;rcases PC n 0 f.bg.1 with h|h;exact .inr j4;exact .inr Y
  |false=>rw[aI aM];have e:f.bg.1.pass.fl=f.fl:=c a;have:=PC n (p+1) f.bg.1.pass;rwa [e]at this
  exact .inl U
def abT(h:f.Core)(c:f.Open)(hd:f.Ord)(j):jF m f (f.dP j)/\(f.dP j).Core/\(f.dP j).Open/\(f.dP j).Ord/\(f.dP j).fl=f.fl/\(f.dP j).acc=f.acc/\(f.dP j).clock=f.clock:=by
 have a:=h.dP j;unfold Fx.dP at*;split;rename_i k n;simp only[n]at a;split;rename_i l;rw[aO l]at a;have o:(if f.aC=j then aa else f.opn)=f.opn:=by split;rename_i e;rcases eo:f.opn with _|_;rfl;let⟨b,i,p⟩:=c eo;have:=h.stay b i k j4;grind;rfl
 rw[o]at a⊢;refine⟨⟨⟨U,jB,λt k' g=>.inr ⟨k',(xD g).2,.refl k'⟩⟩,U,U,λt=>?_⟩,a,c,λt k' g=>hd t k' (xD g).2,U,U,U⟩;rw[rM];split;split<;>exact cO _;exact aR _;exact⟨.refl f,h,c,hd,U,U,U⟩;exact⟨.refl f,h,c,hd,U,U,U⟩
def MB(h:f.Core)(a:f.Open)(hd:f.Ord):∀j,jF m f (f.bQ j)/\(f.bQ j).Core/\(f.bQ j).Open/\(f.bQ j).Ord/\(f.bQ j).fl=f.fl/\(f.bQ j).acc=f.acc/\(f.bQ j).clock=f.clock
 |0=>⟨.refl f,h,a,hd,U,U,U⟩|j+1=>by obtain⟨b,c,e,g,i,l,n⟩:=MB h a hd j;rw[uV];obtain⟨o,p,q,t,u,v,w⟩:=abT c e g j;exact⟨b.trans o,p,q,t,u.trans i,v.trans l,w.trans n⟩
structure K1(m:Int)(f f2:Fx):Prop where
 ju:jF m f f2
 trn:f2.mw
 ord:f2.Ord
 tok:∀(t:Nat) k,f2.K[t]? =Z (Z k)->1<=k.tok
 fl:∃l,f.fl=l++f2.fl
 due:∀b∈f2.fl,f.clock+1<b.due
 acc:f.acc<=f2.acc
 turns:ij m f2 f2.takes/\f2.takes.Ord/\f2.takes.Small/\f2.takes.Open
 lets:jF m f2.takes f.tick/\f.tick.fl=f2.takes.fl
def Fx.Fair.Jo(h:f.Fair)(o:f.stop=aa)(hc:f.clock<1073741824)(hm:m<=f.acc):f.tick.Fair/\∃f2,K1 m f f2/\f.tick.clock=f.clock+1/\m<=f.tick.acc:=by
 let⟨a1,p,a3,K,ac,j,E⟩:=UB h.rest.core h.ord o hm;have A:=h.rest.early hc;let⟨b1,q,G,u⟩:=aax (m:=m) A;have c:=a1.trans b1;have B:=TM f.early.goes.fl.length f.early.goes A;have i:=B.2.1.trn;have x:f.early.goes.fl=f.fl:=by rw[j]
 have S:f.early.goes.clock=f.clock+1:=by rw[j]
 have z:f.early.goes.acc=ac:=by rw[j]
 let⟨l,a⟩:=TO f.early.goes.fl.length f.early.goes;rw[x]at a;have a:f.fl=l++f.early.goes.ends.fl:=by unfold Fx.ends;rw[x];exact a
 have L:f.early.goes.ends.Open\/(0<f.early.goes.ends.fuel 0/\(f.early.goes.ends.fl.length:Int)<f.early.goes.ends.g.wk/\((0:Nat):Int)<=f.early.goes.ends.g.cl):=by have T:1<=f.early.goes.ends.g.cl/\_:=i.core.g.cl;by_cases D:(f.early.goes.ends.fl.length:Int)<f.early.goes.ends.g.wk;refine .inr ⟨?_,D,Y⟩;unfold Fx.fuel;grind;refine .inl λC=>?_;have O:=h.rest.core.kA;rw[a,fQ]at O;rw[c.jq.g]at D;have:l.length=0:=Y;rw[vQ.1 this,jZ]at a;rw[c.opn]at C;let⟨b,n,o⟩:=h.opn C;exact⟨b,a▸n,by rw[c.aC];exact o⟩
 let⟨H,v,w,J,e⟩:=zh (m:=m) (f.early.goes.ends.fuel 0) 0 f.early.goes.ends i (q p) (c.sm h.small);have e:=e L;let⟨d1,d2,d3,d4,d5,d6,d7⟩:=MB (m:=m) (f:=f.early.goes.ends.takes) (Jr (f.early.goes.ends.fuel 0) 0 _ i).core e v f.early.goes.ends.takes.K.length;let⟨Q,R⟩:=Xu h.rest hc;refine⟨⟨Q,d4,d1.sm w,d3⟩,f.early.goes.ends,⟨c,i,q p,λt k P=>?_,⟨l,a⟩,λb n=>?_,by show f.acc<=f.early.goes.ends.acc;rw[u,z];exact E,⟨H,v,w,e⟩,d1,d5⟩,R,?_⟩;let⟨V,W,X⟩:=G t k P;grind;have:=B.2.2.2 (aR _) b n;omega;have:f.tick.acc=f.early.goes.ends.acc:=d6.trans J;rw[this,u,z];omega
def qL(m:Int)(c:Nat)(f:Fx)(a:Nat):Prop:=∃s r,lz m f s r/\((∃z:Nat,z<=16/\(∀b∈f.fl,b.rs.any (r.touch ·)=M->b.due<=f.clock+z)/\17*c+17+z<=a)\/(CK f r/\∃d j:Nat,Way f s d/\j<=16/\(∀b∈f.fl,b.due<=f.clock+j)/\17*f.path m d+j<=a))
def qL.ju{aqe a}(h:qL m aqe f a)(b:jF m f f')(c:f.K.length<=8)(o:f.Ord)(p:f'.Ord)(hf:f'.fl=f.fl)(hc:f'.clock=f.clock)(e:f.dH m<=f'.dH m):qL m aqe f' a:=by let⟨s,r,T,h⟩:=h;have e:=b.jq.calm e;refine⟨s,r,T.follow b.jq e c o p,?_⟩;unfold CK at*;rw[hf,hc];refine h.imp id λ⟨g,d,j,i,l,n,q⟩=>⟨g,d,j,b.way i,l,n,?_⟩;have:=b.path (d:=d) c e;omega
def qL.pick{aqe}(hF:f.Fair){t:Nat}(c:f.K[t]? =Z (Z k))(hr:k.room f.g=M)(hm:k.fst.no<m):qL m aqe f (17*aqe+33):=by let⟨s,r,T⟩:=lz.pick hF.ord _ t k c hr hm (aR _);exact⟨s,r,T,.inl ⟨16,aR _,λb a _=>(hF.rest.core.fresh b a).2,aR _⟩⟩
def qL.tick{aqe a}(h:qL m aqe f a)(hF:f.Fair)(W:f.stop=aa)(hc:f.clock<1073741824)(hm:m<=f.acc)(e:f.dH m<=f.tick.dH m)(S:∀d,f.tick.path m d<=aqe):∃B,B<a/\qL m aqe f.tick B:=by
 let⟨x,f2,Tk,uW,_⟩:=hF.Jo W hc hm;let⟨s,r,T,h⟩:=h;have w:=hF.rest.core.small;have C:f2.K.length<=8:=by rw[Tk.ju.jq.len];exact w
 have D:f2.takes.K.length<=8:=by rw[Tk.turns.1.len];exact C
 have l1:=Tk.ju.jq.dH;have l2:=Tk.turns.1.dH;have l3:=Tk.lets.1.jq.dH;have O:=Tk.ju.jq.calm Y;have P:=Tk.lets.1.jq.calm Y;have v:=T.follow Tk.ju.jq O w hF.ord Tk.ord;have o:=(v.follow Tk.turns.1 (Tk.turns.1.calm Y) C Tk.ord Tk.turns.2.1).follow Tk.lets.1.jq P D Tk.turns.2.1 x.ord;have H:∀k,f2.K[s]? =Z (Z k)->0<k.tok:=λk V=>by have:=Tk.tok s k V;omega
 have G:=Tk.ju.sm hF.small;let⟨l,hl⟩:=Tk.fl;have sub:∀b∈f2.fl,b∈f.fl:=λb c=>by grind
 have t:∀b∈f.tick.fl,b.rs.any (r.touch ·)=M->b∈f2.fl:=λb c q=>by rw[Tk.lets.2]at c;rcases (Pz (f2.fuel 0) 0 f2 Tk.trn Tk.ord G v H (by show f2.dH m<=f2.takes.dH m;omega)) b c with h1|h1;exact h1;rw[h1]at q;cases q
 have fresh:=λb c=>(x.rest.core.fresh b c).2;rcases h with⟨z,z1,Q,z3⟩|⟨X,d,j,A,hj,E,ha⟩;by_cases c:∃b∈f.tick.fl,b.rs.any (r.touch ·)=M;let⟨b,u,i⟩:=c;have h1:=Tk.due b (t b u i);have R:=Q b (sub b<|t b u i) i;refine⟨17*aqe+17+(z-1),Y,s,r,o,.inl ⟨z-1,Y,λb c q=>?_,aR _⟩⟩;have:=Q b (sub b<|t b c q) q;omega;let⟨d,A⟩:=akb o.len x.rest.core.aC;have:=S d;exact⟨17*f.tick.path m d+16,Y,s,r,o,.inr ⟨λb u=>EH.2 λi=>c ⟨b,u,i⟩,d,16,A,aR _,fresh,aR _⟩⟩;have L:CK f2 r:=λb c=>X b (sub b c);have an:=Tk.trn.core.len;have J:=Tk.ju.way A;let⟨t1,n,t2,t3⟩:=PD (f2.fuel 0) 0 d f2 Tk.trn Tk.ord G v H L J (by have:=J.2.1;omega) (aR _) (by show f2.dH m<=f2.takes.dH m;omega);have p1:=Tk.ju.path (d:=d) w O;have p3:=Tk.lets.1.path (d:=n) D P;have t2:=t2;have t3:f2.takes.path m n+f2.takes.fl.length<=f2.path m d+f2.fl.length:=t3;have N:CK f.tick r:=λb c=>EH.2 λi=>by have:=L b (t b c i);rw[i]at this;cases this
 rcases PC (f2.fuel 0) 0 f2 with p|UZ;have p:f2.takes.fl=f2.fl:=p;rw[p]at t3;have aH:=Tk.trn.core.g.wk;have t1:f2.g.wk<=(f2.takes.fl.length:Int):=t1;rw[p]at t1;let⟨b,l',el⟩:=Fe (l:=f2.fl) λe0=>by grind
 have c:b∈f2.fl:=j4;have h1:=Tk.due b c;have R:=E b (sub b c);refine⟨17*f.tick.path m n+(j-1),Y,s,r,o,.inr ⟨N,n,j-1,Tk.lets.1.way t2,Y,λb c=>?_,aR _⟩⟩;rw[Tk.lets.2,p]at c;have:=E b (sub b c);omega;have UZ:f2.fl.length<f2.takes.fl.length:=UZ;exact⟨17*f.tick.path m n+16,Y,s,r,o,.inr ⟨N,n,16,Tk.lets.1.way t2,aR _,fresh,aR _⟩⟩
end
abbrev Cf.X(g:Cf):Nat:=(5*g.qn).toNat / 4
def qV(g:Cf)(E:Nat):Nat:=if E<=1 then(g.cl.toNat-1) *g.X else(g.cl.toNat-2) *g.X
def qm(g:Cf)(E a:Nat):Nat:=if E<=1 then a else 17*((g.cl.toNat-1) *g.X)+34+(E-2) *(17*((g.cl.toNat-2) *g.X)+34)+a
def WY{g E a a'}(h:a'<a):qm g E a'<qm g E a:=by unfold qm;split<;>omega
def afm{g E E' a}(h:E'<E)(b:1<=E'):qm g E' (17*qV g E'+33)<qm g E a:=by
 unfold qm qV;rw[aI (show ¬E<=1 by omega)];split;omega;generalize c:17*((g.cl.toNat-2) *g.X)+34=T at*
 have e:(E'-2) *T+T<=(E-2) *T:=by rw[<-Ce];exact th T Y
 omega
structure mS(m:Int)(f:Fx)(s w:Nat):Prop where
 fair:f.Fair
 stop:f.stop=aa
 acc:m<=f.acc
 me:∃k,f.K[s]? =Z (Z k)/\k.room f.g=M/\k.cA f.g m=1
 cA:∃a,qL m (qV f.g (f.dH m)) f a/\qm f.g (f.dH m) a<=w
section
variable {m:Int} {k k':Ck} {f f':Fx} {s d t w:Nat}
def Sx(h:f.Core)(b:f.Small)(d t):f.cap m d t<=if t<f.K.length then f.g.X else 0:=by have c:=h.g.qn;have hm:=h.g.mx;unfold Fx.cap;split;rename_i a;rw[aO a.1];split;rename_i e;have:=b t;grind;exact aR _;exact cO _
def LP(d)(h:0<f.cA m t):f.cap m d t=0:=by unfold Fx.cap;rw[aI λx=>by omega]
def AO(h:0<f.cA m t):t<f.K.length:=by rcases e:f.K[t]? with _|o;rw[Fx.cA,e]at h;cases h;exact(bY.1 e).1
def aeX(h:f.Core)(c:f.Small)(d)(a:0<f.cA m t):f.path m d+f.g.X<=f.K.length*f.g.X:=by have b:=h.small;have e:=AO a;have:=xG (x:=f.g.X) (Sx h c d) (t:=t) Y (by rw[LP d a,aO e];omega);rwa [Pe b]at this
def aeZ(h:f.Core)(n:f.Small)(d)(a:0<f.cA m t)(b:0<f.cA m s)(l:s≠t):f.path m d+2*f.g.X<=f.K.length*f.g.X:=by have j:=h.small;have p:=AO a;have o:=AO b;have i:=Sx (m:=m) h n d;have a1:=xG (φ:=f.cap m d) (ψ:=λq=>if q=s then 0 else if q<f.K.length then f.g.X else 0) (x:=f.g.X) (t:=t) (λq=>by by_cases e:q=s;rw[e,LP d b];exact cO _;simp only[e,dM];exact i q) Y (by rw[LP d a];simp[dB l,p]);have c:=xG (φ:=λq=>if q=s then 0 else if q<f.K.length then f.g.X else 0) (ψ:=λq=>if q<f.K.length then f.g.X else 0) (x:=f.g.X) (t:=s) (λq=>by by_cases e:q=s;simp[e];simp[e]) Y (by simp[o]);rw[Pe j]at c;have a1:f.path m d+f.g.X<=_:=a1;omega
def aiN{φ}(i:s<8)(h:φ s=1)(a:2<=qz φ):∃t,t<8/\t≠s/\0<φ t:=by refine ny λb=>?_;have z:∀t,t<8->t≠s->φ t=0:=λt g c=>Nat.eq_zero_of_not_pos λe=>b ⟨t,g,c,e⟩;have j:=z 0 aM;have l:=z 1 aM;have n:=z 2 aM;have o:=z 3 aM;have p:=z 4 aM;have q:=z 5 aM;have r:=z 6 aM;have u:=z 7 aM;unfold qz at a;grind
def aeW(h:f.Core)(b:f.Small)(d)(c:f.cA m s=1):f.path m d<=qV f.g (f.dH m):=by have e:=h.small;have j:=h.len;have l:=AO (m:=m) (t:=s) (f:=f) Y;have a:f.K.length=f.g.cl.toNat:=Y;unfold qV;split;have:=aeX (m:=m) h b d (t:=s) Y;rw[Nat.sub_mul,<-a];omega;rename_i i;let⟨t,t1,t2,t3⟩:=aiN (φ:=f.cA m) (s:=s) Y c (by show 2<=f.dH m;omega);have:=aeZ (m:=m) h b d t3 (s:=s) Y (dB t2);rw[Nat.sub_mul,<-a];omega
def acV(a:f.K.length<=8)(h:f.cA m s=1):1<=f.dH m:=by have b:=AO (m:=m) (t:=s) (f:=f) Y;have:=xG (φ:=λ_=>0) (ψ:=f.cA m) (λ_=>cO _) (t:=s) (x:=1) Y Y;unfold Fx.dH;grind
def mS.new(hF:f.Fair)(c:f.stop=aa)(hm:m<=f.acc)(a:f.K[s]? =Z (Z k))(hr:k.room f.g=M)(hl:k.cA f.g m=1)(b:k.fst.no<m):mS m f s (qm f.g (f.dH m)<|17*qV f.g (f.dH m)+33):=⟨hF,c,hm,⟨k,a,hr,hl⟩,_,qL.pick hF a hr b,aR _⟩
def UQ(b:f.Ord)(a:f.K[s]? =Z (Z k))(hl:k.cA f.g m=1):k.fst.no<m:=((b s k a).head λe=>by rw[DH e]at hl;cases hl).2.1
def mS.step(h:mS m f s w)(hF:f'.Fair)(x:f'.stop=aa)(hm:m<=f'.acc)(hf:ij m f f')(j:0<f'.cA m s)(C:f.dH m<=f'.dH m->∀a,qL m (qV f.g<|f.dH m) f a->(∀d,f'.path m d<=qV f.g (f.dH m))->∃b,b+d<=a/\qL m (qV f.g<|f.dH m) f' b)(hd:d<=1):∃A,A+d<=w/\mS m f' s A:=by
 let⟨k,r,hr,u⟩:=h.me;let⟨a,G,N⟩:=h.cA;have l1:=hf.cA s;have l:f'.cA m s=1:=by rw[om r,u]at l1;omega
 obtain⟨k',n,v,p⟩:∃k',f'.K[s]? =Z (Z k')/\k'.room f'.g=M/\k'.cA f'.g m=1:=by
  rcases e:f'.K[s]? with _|o;rw[Fx.cA,e]at j;cases j;rcases o with _|k';rw[Fx.cA,e]at j;cases j;have i:=om (m:=m) e;rw[l]at i;have H:k'.old m≠[]:=λc=>by rw[DH c]at i;cases i
  rcases hf.K s k' e with c|⟨O,z,J⟩;exact absurd c H;rw[r]at z;cases z;have L:=J.cA.2 (by rw[u,<-hf.g];exact i.symm);exact⟨k',U,by rw[hf.g,L.2 j4];exact hr,i.symm⟩
 by_cases e:f.dH m<=f'.dH m;have c:=E6 hf.dH e;have D:∀d,f'.path m d<=qV f.g (f.dH m):=λd=>by have:=aeW (m:=m) hF.rest.core hF.small d l;rwa [hf.g,c]at this
 let⟨b,a1,B⟩:=C e a G D;refine⟨qm f.g (f.dH m) b,?_,hF,x,hm,⟨k',n,v,p⟩,b,by rw[hf.g,c];exact B,by rw[hf.g,c];exact aR _⟩;rcases qF d with rfl|hp;have:qm f.g (f.dH m) b<=qm f.g (f.dH m) a:=by rcases E2 (show b<=a by omega)with rfl|h2;exact aR _;exact oI<|WY h2
 omega;have:=WY (g:=f.g) (E:=f.dH m) (show b<a by omega);omega;have:=afm (g:=f.g) (E:=f.dH m) (E':=f'.dH m) (a:=a) Y (acV (by rw[hf.len];exact h.fair.rest.core.small) l);have q:=mS.new hF x hm n v p (UQ hF.ord n p);rw[hf.g]at q;exact⟨_,Y,q⟩
def mS.tick(h:mS m f s w)(hc:f.clock<1073741824)(i:0<f.tick.cA m s):∃b,b+1<=w/\mS m f.tick s b:=by let⟨j,f2,Tk,p,o⟩:=h.fair.Jo h.stop hc h.acc;refine h.step (d:=1) j ((cG (·.2.2)<|Jn f).trans h.stop) o ((Tk.ju.jq.trans Tk.turns.1).trans Tk.lets.1.jq) i (λe a n l=>?_)<|aR _;let⟨c,a1,g⟩:=n.tick h.fair h.stop hc h.acc e l;exact⟨c,Y,g⟩
def mS.ju(h:mS m f s w)(c:jF m f f')(hF:f'.Fair)(l:f'.stop=aa)(hm:m<=f'.acc)(hf:f'.fl=f.fl)(hc:f'.clock=f.clock)(g:0<f'.cA m s):∃b,b<=w/\mS m f' s b:=by let⟨b,n,i⟩:=h.step (d:=0) hF l hm c.jq g (λe a j o=>⟨a,Y,j.ju c h.fair.rest.core.small h.fair.ord hF.ord hf hc e⟩) aM;exact⟨b,Y,i⟩
end
section
variable {m:Int} {k k':Ck} {f f1 f':Fx} {s t j:Nat} {r:Rq}
structure ko(m:Int)(f f':Fx):Prop where
 ju:jF m f f'
 fl:f'.fl=f.fl
 clock:f'.clock=f.clock
 acc:f'.acc=f.acc
def Fx.Fair.DM(h:f.Fair)(hR:f'.Rest)(a:ko m f f')(b:f'.Ord):f'.Fair:=⟨hR,b,a.ju.sm h.small,λe=>by rw[a.fl,a.ju.aC];exact h.opn (a.ju.opn▸e)⟩
def Xb(h:f.Fair)(b:f.K[s]? =Z (Z k))(c:(k'.q=k.q/\(k'.out.size:Int)+k'.prom<=k.out.size+k.prom)\/k'.q=[])(hd:k'.de=k.de):ko m f (f.at s k')/\(f.at s k').Ord:=by refine⟨⟨Nd U jB U U λt x a=>?_,U,U,U⟩,h.ord.set U U ?_⟩;rcases oy a with⟨rfl,rfl⟩|⟨_,a⟩;exact az ⟨k,b,c,hd⟩;exact az ⟨x,a,aA ⟨rfl,fI _⟩,rfl⟩;have:=h.ord s k b;unfold Ck.Ord at*;rcases c with⟨e,_⟩|e<;>rw[e];exact this;exact⟨.nil,λr hr=>by cases hr⟩
def abX(hR:f.Rest)(h:f.Fair)(n):ko m f (f.bQ n)/\(f.bQ n).Fair:=by obtain⟨d1,d2,d3,d4,d5,d6,d7⟩:=MB hR.core h.opn h.ord n;exact⟨⟨d1,d5,d7,d6⟩,hR.bQ n,d4,d1.sm h.small,d3⟩
def ko.trans(h:ko m f f1)(a:ko m f1 f'):ko m f f':=⟨h.ju.trans a.ju,a.fl.trans h.fl,a.clock.trans h.clock,a.acc.trans h.acc⟩
def Fx.Fair.goes(h:f.Fair)(e:f.K[s]? =Z (Z k))(g:(k'.q=k.q/\(k'.out.size:Int)+k'.prom<=k.out.size+k.prom)\/k'.q=[])(hd:k'.de=k.de)(hR:(f.at s k').Rest)(n):ko m f ((f.at s k').bQ n)/\((f.at s k').bQ n).Fair:=by let⟨a,b⟩:=Xb (m:=m) h e g hd;let⟨c,d⟩:=abX (m:=m) hR (h.DM hR a b) n;exact⟨a.trans c,d⟩
def Fx.Fair.ku(h:f.Fair)(d:f.K[j]? =Z aj)(wt)(hR:(f.ku j wt).Rest):ko m f (f.ku j wt)/\(f.ku j wt).Fair:=by
 have e:=(bY.1 d).1;have b:(f.ku j wt).K=f.K.set j (Z<|(Ck.fresh f.bF wt f.g.bu).send gm):=by show(f.K.set j _).set j _=_;rw[pK]
 have c:ko m f (f.ku j wt):=⟨Nd U j4 U U λt x a=>by rw[b]at a;rcases oy a with⟨rfl,rfl⟩|⟨_,a⟩;exact aA ⟨rfl,rfl⟩;exact az ⟨x,a,aA ⟨rfl,fI _⟩,rfl⟩,rfl,rfl,rfl⟩;exact⟨c,h.DM hR c (h.ord.set b U ⟨.nil,λr hr=>by cases hr⟩)⟩
end
section
variable {g:Cf} {W:av Wi} {k k1 k':Ck} {f:Fx} {s t j:Nat} {r:Rq} {un wf:av Nat} {ts:av Tk} {jr:av Rq} {b:Jb}
def YL(t k')(a:f.bg.1.K[t]? =Z (Z k')):∃k,f.K[t]? =Z (Z k)/\(k'.out=k.out/\k'.ph=k.ph)/\(k'.q=k.q\/t=f.aC/\∃b∈f.bg.1.fl,b.s=t):=by
 by_cases e:∃k,f.K[f.aC]? =Z (Z k)
 ·let⟨k,c⟩:=e;have d:(f.aT k).q=k.q/\(f.aT k).out=k.out/\(f.aT k).ph=k.ph:=by unfold Fx.aT;split<;>exact⟨U,U,U⟩
  rw[Bs c]at a⊢;split at a
  ·rename_i m;rw[aO m];split at a
   ·rename_i n;rw[aO n];have i:((f.turned k).gN f.aC<|f.aT k).K=f.K.set f.aC (Z ((f.turned k).eK f.aC (f.aT k).next.q.length (f.aT k).next [(f.aT k).fst]).1):=by show(f.K.set f.aC _).set f.aC _=_;rw[pK]
    let⟨l,o,g2⟩:=GR (f:=f.turned k) (s:=f.aC) (f.aT k).next.q.length (f.aT k).next [(f.aT k).fst]
    have a:=a;rw[i]at a;rcases oy a with⟨rfl,rfl⟩|⟨_,h⟩;exact⟨k,c,⟨g2.out.trans d.2.1,g2.ph.trans d.2.2⟩,.inr ⟨rfl,_,yL.2<|.inl rfl,rfl⟩⟩;exact⟨k',h,⟨rfl,rfl⟩,.inl rfl⟩
   rcases oy a with⟨rfl,rfl⟩|⟨_,h⟩;exact⟨k,c,d.2,.inl d.1⟩;exact⟨k',h,⟨rfl,rfl⟩,.inl rfl⟩
  have i:((f.turned k).at f.aC (f.aT k).lose).K=f.K.set f.aC (Z (f.aT k).lose):=by show(f.K.set f.aC _).set f.aC _=_;rw[pK]
  have a:=a;rw[i]at a;rcases oy a with⟨rfl,rfl⟩|⟨_,h⟩;exact⟨k,c,d.2,.inl d.1⟩;exact⟨k',h,⟨rfl,rfl⟩,.inl rfl⟩
 rw[Js λk c=>e ⟨k,c⟩]at a;exact⟨k',a,⟨U,U⟩,.inl U⟩
def YN(a:b∈f.fl):b∈f.bg.1.fl:=by unfold Fx.bg;split;split;split;exact yL.2<|.inr a;exact a;exact a;exact a
def Ex:∀(n p:Nat) (f:Fx),b∈f.fl->b∈(Fx.turns n p f).fl
 |0,p,f,h=>h|n+1,p,f,h=>by unfold Fx.turns;split;split;exact Ex n 0 _<|YN h;exact Ex n (p+1) _<|YN h;exact h
def Px:∀(n p:Nat) (f:Fx) (k':Ck),(Fx.turns n p f).K[t]? =Z (Z k')->∃k,f.K[t]? =Z (Z k)/\(k'.out=k.out/\k'.ph=k.ph)/\((∀b∈(Fx.turns n p f).fl,b.s≠t)->k'.q=k.q)
 |0,p,f,k',h=>⟨k',h,⟨U,U⟩,λ_=>U⟩|n+1,p,f,k',h=>by
  unfold Fx.turns at h⊢;split;rename_i w;rw[aO w]at h;cases v:f.bg.2 with
  |true=>rw[v,aO U]at h;rw[aO U];obtain⟨k1,e,a,i⟩:=Px n 0 _ k' h;let⟨k,o,d,u⟩:=YL t k1 e;exact⟨k,o,⟨a.1.trans d.1,a.2.trans d.2⟩,λc=>(i c).trans (u.resolve_right λ⟨_,b,l,m⟩=>c b (Ex n 0 _ l) m)⟩
  |false=>rw[v,aI aM]at h;rw[aI aM];let⟨k1,e,a,i⟩:=Px n (p+1) _ k' h;let⟨k,o,d,u⟩:=YL t k1 e;exact⟨k,o,⟨a.1.trans d.1,a.2.trans d.2⟩,λc=>(i c).trans (u.resolve_right λ⟨_,b,l,m⟩=>c b (Ex n (p+1) f.bg.1.pass l) m)⟩
  rename_i w;grind
def Uy(f:Fx):∀n,(f.bQ n).K[t]? =Z (Z k)->f.K[t]? =Z (Z k)
 |0,h=>h|n+1,h=>by rw[uV]at h;refine Uy f n ?_;unfold Fx.dP at h;split at h;split at h;exact(xD h).2;exact h;exact h
def RP(B)(ft:Ft):∀(a:av Rq) (k:Ck),(k.answers B ft a).ph=k.ph/\((82:UInt8)∈k.out.data.toList\/(k.ph≠4/\a≠[])->(82:UInt8)∈(k.answers B ft a).out.data.toList)
 |[],k=>⟨U,λh=>h.resolve_right λh=>h.2 U⟩|r::a,k=>by
  obtain⟨d,i⟩:=RP B ft a (k.hrd B ft r);have e:(k.hrd B ft r).ph=k.ph/\((82:UInt8)∈k.out.data.toList\/k.ph≠4->(82:UInt8)∈(k.hrd B ft r).out.data.toList):=by unfold Ck.hrd Ck.nQ;split;rename_i c;exact⟨U,λh=>h.resolve_right λh=>h c⟩;refine⟨U,λh=>?_⟩;show(82:UInt8)∈(k.out++jy _ _ _).data.toList;rw[zB,uh];rcases h with h|h;exact Fl _ h;apply Kq _;unfold jy;simp[zB]
  exact⟨d.trans e.1,λh=>i (.inl<|e.2<|h.imp id λh=>h.1)⟩
def TP:∀(n:Nat) (f:Fx),f.nK->∀k',(Fx.fin n f).K[t]? =Z (Z k')->∃k,f.K[t]? =Z (Z k)/\k'.ph=k.ph/\((82:UInt8)∈k.out.data.toList\/(k.ph≠4/\f.fl.length<=n/\∃b∈f.fl,b.s=t/\b.due<=f.clock)->(82:UInt8)∈k'.out.data.toList)
 |0,f,h,k',c=>⟨k',c,U,λh=>h.resolve_right λ⟨_,d,b,h2,_⟩=>by rw[vQ.1<|Nat.le_zero.1 d]at h2;cases h2⟩|n+1,f,h,k',c=>by unfold Fx.fin at c;split at c;rename_i e;exact⟨k',c,U,λh=>h.resolve_right λ⟨_,d,b,h2,_⟩=>by rw[e]at h2;cases h2⟩;rename_i a r e;split at c;rename_i o;obtain⟨⟨z,w,_⟩,_,u⟩:=wY.does f a r h e o;have E:=(h.core.jb a j4).1.ne;let⟨k1,i,x,l⟩:=TP n _ u k' c;rw[sE (f:={f with fl:=r}) w]at i l;have l:(82:UInt8)∈k1.out.data.toList\/(k1.ph≠4/\r.length<=n/\∃b∈r,b.s=t/\b.due<=f.clock)->(82:UInt8)∈k'.out.data.toList:=l;rcases oy i with⟨C,rfl⟩|⟨D,i⟩;let⟨a1,A⟩:=RP (({f with fl:=r}:Fx).dk.change a.rs a.ft).B a.ft (a.rs.take a.rs.length) z;grind;refine⟨k1,i,x,λv=>l (v.imp id λ⟨d,h2,b,p,m,q⟩=>⟨d,by rw[e,gH]at h2;omega,b,?_,m,q⟩)⟩;grind;rename_i o;refine⟨k',c,U,λh=>h.resolve_right λ⟨_,d,b,h2,p,m⟩=>?_⟩;rw[e]at h2;rcases jh.1 h2 with rfl|h2;omega;have:=(wY.top f a r ‹f.nK› e).1 b h2;unfold eI at this;simp at this;omega
def TN:∀(n:Nat) (f:Fx),b∈f.fl->f.clock<b.due->b∈(Fx.fin n f).fl
 |0,f,h,_=>h|n+1,f,h,a=>by
  unfold Fx.fin;split;rename_i e;rw[e]at h;cases h;rename_i d r e;split;rename_i h0;refine TN n _ ?_ (by rw[(uR _ _).2.1];exact a);rw[(uR _ _).1];rw[e]at h;exact(jh.1 h).resolve_left λc=>by rw[c]at a;omega
  exact h
def cK.reads(hI:g.Is)(wo:mA W)(h:cK g W 0 jr k (j::un) [] wf ts)(d:k.ph=2)(A:k.out.size<=2)(hm:k.prom=0)(n):(Ck.read g (n+1) k).q≠[]:=by
 have w:k.q=[]:=by simpa using h.q
 let⟨_,_,_,_,x⟩:=cK.read hI wo (n+1) k (j::un) [] h d;have o:=x.ph.trans d;have C:=hI.qu;have B:=hI.ou;have z:=hI.mx;have v:k.ph≠4/\(k.q.length:Int)<g.qu/\(k.out.size:Int)+k.prom+needs k.q<=g.ou:=by rw[w];exact⟨Y,by show((0:Nat):Int)<_;omega,by show(k.out.size:Int)+k.prom+6<=_;omega⟩
 have a:=h.aN;rw[aI Y,jZ]at a;let⟨r,c,D,m⟩:=h.ok j ay;have p:=h.us j fJ;rw[Gv c]at p;rw[pH,Jw c]at a;have e:first g.sz g.mx k.ph k.us k.aN=(r.msg,(r.dV.size:Int)):=by rw[d];exact Ub k.us hI m (wo.one j r c).1 p a
 have E:=ED r;rw[Xk v e j4 j4]at o⊢;rcases Iy g n (k.hear g (r.msg,(r.dV.size:Int)))with⟨_,i⟩|⟨l,u,_⟩;rw[o]at i;cases i;rw[u];have:(k.hear g (r.msg,(r.dV.size:Int))).q=k.q++[⟨r.msg,-1⟩]:=by show(if accepted r.msg=M then k.q++[⟨r.msg,-1⟩]else k.q)=_;rw[aO m.acc]
 rw[this];simp
end
section
variable {m:Int} {g:Cf} {W:av Wi} {k k1 k':Ck} {f:Fx} {s t j:Nat} {r:Rq} {un wq wf:av Nat} {ts:av Tk} {b:Jb}
def aav{ts}(h:ts.flatMap (iY W)=[]):ts=[]:=by
 rcases ts with _|⟨t,ts⟩;rfl;rw[pH]at h
 exact absurd (Fc.1 h).1 (by
       match t with
       |.inl b=>exact A3 _ _
       |.inr (j,e,x)=>exact A3 _ _)
def aeP(h:k.out.size=0):k.out.data.toList=[]:=vQ.1 (by rw[lQ];exact h)
def Hq:∀{l:av Jb},(∀b∈l,b.s≠s)->gO l s=[]
 |[],_=>rfl|b::l,h=>by show(if b.s=s then b.rs else[])++gO l s=[];rw[aI<|h b fJ,Hq λx a=>h x (gC _ a)];rfl
def wO.reads(hI:g.Is)(wo:mA W)(h:wO g W 0 [] k)(C:k.q=[])(B:k.out.size=0)(hm:k.prom=0)(v:∃(j:Nat) (r:Wi),W[j]? =Z r/\r.u=0/\r.bk= -1):(k.dQ g).q≠[]:=by
 let⟨un,wq,wf,ts,h⟩:=h;have d:wq=[]:=by have:=h.q;rw[C]at this;exact Fi.1 this.symm
 have e:=Fi.1 h.fl.symm;have i:=aav (h.out.symm.trans<|aeP B);subst d e i;let⟨j,r,x,E,w⟩:=v;have z:=h.all j r x E w;rcases un with _|⟨H,un⟩;simp at z;unfold Ck.dQ;rcases h.ph with a|⟨a,_⟩;exact h.reads hI wo a Y hm _;have D:=zb h.aN;rw[aO a,fQ]at D;have G:gm.data.toList.length=7:=U;obtain⟨n,A⟩:∃n,k.aN.size+1=n+1+2:=⟨k.aN.size-2,Y⟩;rw[A];let⟨J,l,c,o,p⟩:=h.UJ hI a hm (n+1);rw[l];refine c.reads hI wo o ?_ (p.2.2.2.2.2.1.trans hm) n;have:=zb c.out;rw[this];exact aR 2
def aea(h:f.Fair)(J:f.stop=aa)(hc:f.clock<1073741824)(c:f.g=g)(wo:mA W)(H:iG g W 0 s f)(e:f.K[s]? =Z (Z k)):
  ∃k1,f.tick.K[s]? =Z (Z k1)/\k1.no=0/\k1.ph=2/\(∀b∈f.fl,f.clock+1<b.due->b∈f.tick.fl)/\((∃b∈f.fl,b.s=s/\b.due<=f.clock+1)->(82:UInt8)∈k1.out.data.toList)/\
   ((∀b∈f.tick.fl,b.s≠s)->(k.q≠[]->k1.q≠[]/\k1.fst=k.fst)/\(k.q=[]->(∀b∈f.fl,b.s≠s)->k.out.size=0->(∃(j:Nat) (r:Wi),W[j]? =Z r/\r.u=0/\r.bk= -1)->k1.q≠[])):=by
 let⟨k1,z,e2,e3,_⟩:=H.tick h.rest hc c J wo
 let⟨a1,a2,a3,K,ac,p,a5⟩:=UB (m:=0) h.rest.core h.ord J h.rest.core.acc
 have B:=h.rest.early hc;have ak:f.early.goes.fl=f.fl:=by rw[p]
 have ah:f.early.goes.clock=f.clock+1:=by rw[p]
 have Q:f.tick.fl=f.early.goes.ends.takes.fl:=(Mz f.early.goes.ends.takes _).2
 let⟨L,b1,R,S⟩:=Px (t:=s) (f.early.goes.ends.fuel 0) 0 f.early.goes.ends k1 (Uy f.early.goes.ends.takes _ z)
 let⟨N,v,c2,T⟩:=TP (t:=s) f.early.goes.fl.length f.early.goes B L b1
 let⟨_,_,_,_,_,V⟩:=Ml f.early.goes.fl.length f.early.goes B
 let⟨aX,w,X,_⟩:=V s L b1
 rw[v]at w;cases w
 let⟨_,k0,i,d1,d2⟩:=a3 s N v
 rw[e]at d1;cases d1;have G:N.ph=2:=j4
 refine⟨k1,z,Y,e3,λb C hd=>?_,λ⟨b,C,aD,aC⟩=>?_,λE=>?_⟩;rw[Q];exact Ex _ 0 _<|TN _ _ j4 j4;rw[R.1];refine T (.inr ⟨Y,aR _,b,by rw[ak];exact C,aD,by rw[ah];exact aC⟩);rw[Q]at E;have a:k1.q=(bL i ((k.dh f.g).dQ f.g).q).1:=(S E).trans (X.trans (by rw[d2];rfl));have aH:((k.dh f.g).dQ f.g).ph=2:=by rw[d2]at G;exact G
 refine⟨λo=>?_,λo D ho hW=>?_⟩;rcases Iy f.g (k.aN.size+1) (k.dh f.g)with⟨_,d⟩|⟨l,n,_⟩;have d:((k.dh f.g).dQ f.g).ph=4:=d;rw[aH]at d;cases d;have n:((k.dh f.g).dQ f.g).q=k.q++l:=n;rw[n,Ny,NB k.q i λr hr=>((h.ord s k e).2 r hr).1]at a
 let⟨x,tl,A⟩:=Fe o
 have a:k1.q=k.q++_:=a;rw[A]at a;refine⟨by rw[a];simp,?_⟩;unfold Ck.fst;rw[a,A];rfl
 let⟨k',O,r2,un,wq,wf,ts,P⟩:=H
 rw[e]at O;cases O;rw[Hq D]at P;have hI:=h.rest.core.g;rw[c]at hI;have hr:=wO.reads (k:=k.dh f.g) hI wo ⟨un,wq,wf,ts,by rw[c];exact P.dh⟩ o ho (((h.rest.core.cl s k e).2.2).trans (Ip _<|Hq D)) hW;rw[c]at a;rw[c]at hr;rw[a];intro e6;have:=yP ((k.dh g).dQ g).q i
 grind
end
def Uo(W:av Wi):Nat:=(W.filter λr=>decide (r.u=0)&&decide (r.bk= -1)).length
def Cf.Wm(g:Cf):Nat:=17*((g.cl.toNat-1) *g.X)+34+2*((g.cl.toNat-1) *g.qu.toNat) *(17*((g.cl.toNat-2) *g.X)+34)
def Cf.Tm(g:Cf):Nat:=g.Wm+20
def Mine(f:Fx)(aqf s w:Nat):Prop:=∃k,f.K[s]? =Z (Z k)/\k.out.size=0/\
 ((∃b∈f.fl,b.s=s/\∃z:Nat,z<=16/\b.due<=f.clock+z/\(aqf-1) *f.g.Tm+z<=w)\/
 ((∀b∈f.fl,b.s≠s)/\k.q≠[]/\∃a,mS (k.fst.no+1) f s a/\(aqf-1) *f.g.Tm+17+a<=w)\/
 ((∀b∈f.fl,b.s≠s)/\k.q=[]/\(aqf-1) *f.g.Tm+18+f.g.Wm<=w))
section
variable {m:Int} {g:Cf} {W:av Wi} {k:Ck} {f f':Fx} {s t w j aqf U':Nat} {now:Int} {r:Rq} {ts:av Tk}
def SJ{p}:∀(l:av Wi) (j:Nat) (r x:Wi),l[j]? =Z r->p x=aa->((l.set j x).filter p).length+(if p r then 1 else 0)=(l.filter p).length
 |[],j,r,x,h,_=>by cases h
 |a::l,0,r,x,h,b=>by have h:a=r:=ey h;grind|a::l,j+1,r,x,h,b=>by have c:=SJ l j r x h b;grind
def aeD(o:0<=now)(t:Tk):Uo (t.on now W)<=Uo W/\(∀j e x,t=.inr (j,e,x)->(∃r,W[j]? =Z r/\r.u=0/\r.bk= -1)->Uo (t.on now W)+1<=Uo W):=by
 match t with
 |.inl b=>exact⟨aR _,λj e x h=>by cases h⟩
 |.inr (j,e,x)=>
  rcases hj:W[j]? with _|r;have a:Tk.on now W (.inr (j,e,x))=W:=by unfold Tk.on;dsimp only;rw[hj]
  grind;have a:Tk.on now W (.inr (j,e,x))=W.set j (r.had now e x):=by unfold Tk.on;dsimp only;rw[hj]
  have d:=SJ (p:=λr=>decide (r.u=0)&&decide (r.bk= -1)) W j r (r.had now e x) hj j4;rw[a];refine⟨by unfold Uo;omega,λq i z h ⟨v,c,l,n⟩=>?_⟩;cases h;rw[hj]at c;cases c;rw[aO j4]at d;unfold Uo;omega
def Ii(i:0<=now):∀(ts:av Tk) (W:av Wi),Uo (dS now W ts)<=Uo W/\((∀t∈ts,mU 0 W t)->(∀(j:Nat) r,W[j]? =Z r->r.bk<0->r.bk= -1)->(∃t∈ts,t.no≠aj)->Uo (dS now W ts)+1<=Uo W)
 |[],W=>⟨aR _,λ_ _ ⟨t,h,_⟩=>by cases h⟩|t::ts,W=>by
  obtain⟨a1,u⟩:=aeD i t;let⟨p,q⟩:=Ii i ts (t.on now W);refine⟨cM p a1,λc l n=>?_⟩;match t,c t fJ with
  |.inr (j,e,x),⟨r,b1,v,z,_⟩=>grind
  |.inl b,_=>apply q (λa o=>c a (gC _ o)) l;let⟨a,h4,d⟩:=n;rcases jh.1 h4 with rfl|h4;exact absurd rfl d;exact⟨a,h4,d⟩
def ajr(h:(82:UInt8)∈ts.flatMap (iY W))(d:∀t∈ts,mU j W t):∃t∈ts,t.no≠aj:=by
 let⟨t,c,a⟩:=BY.1 h;refine⟨t,c,λe=>?_⟩;match t,d t c,e with
 |.inl b,hb,_=>have a:(82:UInt8)∈[b]:=a;rw[iz]at a;subst a;rcases hb with hb|hb<;>cases hb
def acT(h:f.Core)(t):f.cA m t<=if t<f.K.length then 2*f.g.qu.toNat else 0:=by
 rcases e:f.K[t]? with _|o;show AN f.g m f.K[t]? <=_;rw[e];exact cO _;rw[aO (bY.1 e).1];cases o with
 |none=>show AN f.g m f.K[t]? <=_;rw[e];exact cO _
 |some k=>rw[om e];have a:=(h.cl t k e).1.len;have b:(k.old m).length<=k.q.length:=Ko _ _;unfold Ck.cA;split<;>omega
def VG(h:f.Core)(c:f.cA m s=1):f.dH m<=2*((f.g.cl.toNat-1) *f.g.qu.toNat)+1:=by have a:=h.small;have d:=h.len;have i:=h.g.qu;have l:=AO (m:=m) (t:=s) (f:=f) Y;have:=xG (acT (m:=m) h) (t:=s) (x:=2*f.g.qu.toNat-1) Y j4;rw[Pe a]at this;have b:f.K.length=f.g.cl.toNat-1+1:=Y;rw[b,ej,Nat.one_mul]at this;have e:(f.g.cl.toNat-1) *(2*f.g.qu.toNat)=2*((f.g.cl.toNat-1) *f.g.qu.toNat):=j4;unfold Fx.dH;omega
def WZ{E}(h:E<=2*((g.cl.toNat-1) *g.qu.toNat)+1):qm g E (17*qV g E+33)<=g.Wm:=by
 unfold qm qV Cf.Wm;split;omega;generalize a:17*((g.cl.toNat-2) *g.X)+34=T at*
 have e:(E-2) *T+T<=2*((g.cl.toNat-1) *g.qu.toNat) *T:=by rw[<-Ce];exact th T Y
 omega
def Mine.any(aqf)(hF:f.Fair)(C:f.stop=aa)(a:f.K[s]? =Z (Z k))(A:k.out.size=0):Mine f aqf s ((aqf-1) *f.g.Tm+18+f.g.Wm):=by
 refine⟨k,a,A,?_⟩;by_cases h:∃b∈f.fl,b.s=s;let⟨b,c,u⟩:=h;exact .inl ⟨b,c,u,16,aR _,(hF.rest.core.fresh b c).2,Y⟩;have i:∀b∈f.fl,b.s≠s:=λb c e=>h ⟨b,c,e⟩;by_cases d:k.q=[];exact .inr<|.inr ⟨i,d,aR _⟩;let⟨E,_,G⟩:=hF.rest.core.cl s k a;rw[Ip _<|Hq i]at G;let⟨x,l,e⟩:=Fe d;have v:k.fst=x:=by unfold Ck.fst;rw[e]
 have z:=E.q x j4;have L:=z.of;have N:=hF.rest.core.g.ou;have O:sizeOf' x.m<=f.g.mx+4:=by unfold sizeOf';split<;>omega
 have hr:k.room f.g=M:=by unfold Ck.room;rw[e];simp;omega
 have o:=hF.ord s k a;have B:k.old (k.fst.no+1)=[k.fst]:=by have n:=o.1;unfold Ck.old;rw[e]at n⊢;rw[v,List.filter_cons_of_pos bV,Ff.2 λH D=>?_];have:=(sY.1 n).1 H D;simp;omega
 have p:k.cA f.g (k.fst.no+1)=1:=by unfold Ck.cA;rw[B,hr];rfl
 have J:=(o.2 _<|GN d).2;have:=WZ (VG hF.rest.core<|(om a).trans p);exact .inr (.inl ⟨i,d,_,(mS.new hF C (show k.fst.no+1<=f.acc by omega) a hr p Y),Y⟩)
def Mine.less(hF:f.Fair)(d:f.stop=aa)(b:f.K[s]? =Z (Z k))(c:k.out.size=0)(h:U'<aqf)(i:(aqf-1) *f.g.Tm<=w):U'=0\/∃a,a+1<=w/\Mine f U' s a:=by
 rcases qF U' with e|hp;exact .inl e;refine .inr ⟨_,?_,Mine.any U' hF d b c⟩;have e:(U'-1) *f.g.Tm+f.g.Tm<=(aqf-1) *f.g.Tm:=by rw[<-Ce];exact th _ Y
 unfold Cf.Tm at*;omega
def Mine.base(h:Mine f aqf s w):(aqf-1) *f.g.Tm<=w:=by obtain⟨k,_,_,⟨_,_,_,z,_,_,h⟩|⟨_,_,a,_,h⟩|⟨_,_,h⟩⟩:=h<;>omega
def Mine.DM(h:Mine f aqf s w)(a:∀m,ko m f f')(hF:f'.Fair)(u:f'.stop=aa)(l:f'.K[s]? =f.K[s]?)(L:U'<=aqf):U'=0\/Mine f' U' s w:=by let⟨k,i,o,H⟩:=h;have q:=(a 0).ju.jq.g;rcases E2 L with rfl|hlt;refine .inr ⟨k,l.trans i,o,?_⟩;rw[(a 0).fl,(a 0).clock,q];refine H.imp id<|Or.imp (λ⟨a1,B,A,a3,O⟩=>?_) id;let⟨Q,v,R,N⟩:=a3.me;rw[i]at v;cases v;let⟨x,b1,C⟩:=a3.ju (a _).ju hF u (by rw[(a 0).acc];exact a3.acc) (a 0).fl (a 0).clock (by rw[om<|l.trans i,q,N];decide);exact⟨a1,B,x,C,Y⟩;rcases Mine.less hF u (l.trans i) o hlt (w:=w) j4 with p|⟨x,p,J⟩;exact .inl p;refine .inr ?_;let⟨k,D,E,G⟩:=J;refine⟨k,D,E,G.imp (λ⟨b,c,d,z,e,n,P⟩=>⟨b,c,d,z,e,n,Y⟩)<|Or.imp (λ⟨c,d,A,e,n⟩=>⟨c,d,A,e,Y⟩) λ⟨c,d,e⟩=>⟨c,d,Y⟩⟩
end
section
variable {m:Int} {g:Cf} {W:av Wi} {k k1:Ck} {f:Fx} {s t w j aqf:Nat} {now:Int} {r:Rq} {ts:av Tk}
def GV(a:k.gone=aa):∀(n:Nat) (f:Fx),f.K[s]? =Z (Z k)->(f.bQ n).K[s]? =Z (Z k)
 |0,f,h=>h|n+1,f,h=>by rw[uV];have b:=GV a n f h;unfold Fx.dP;grind
def Pn(h:f.Fair)(a:f.K[s]? =Z (Z k)):(∀m,ko m f<|f.take s k 1099511627776)/\(f.take s k 1099511627776).Fair/\k.takes 1099511627776={k with out:=⟨#[]⟩}:=by
 have d:=((h.rest.core.cl s k a).1).out;have i:=h.rest.core.g.ou;have n:=h.rest.core.prom s;have l:=(h.rest.core.cl s k a).2.2;have e:=Yy k Y;have o:(({k with out:=⟨#[]⟩}:Ck).out.size:Int)=0:=U;have b:(k.takes 1099511627776).de=k.de:=by rw[e]
 have key:∀m,ko m f (f.take s k 1099511627776)/\(f.take s k 1099511627776).Fair:=λm=>h.goes a (.inl j4) b ((h.rest.take a 1099511627776).1) f.K.length;exact⟨λm=>(key m).1,(key 0).2,e⟩
def MD(a:k.ph<3):k.gone=aa:=by unfold Ck.gone;grind
def Yw(h:f.Fair)(d:f.stop=aa)(a:f.K[s]? =Z (Z k))(i:k.ph=2):(∀m,ko m f<|f.take s k 1099511627776)/\(f.take s k 1099511627776).Fair/\(f.take s k 1099511627776).stop=aa/\(f.take s k 1099511627776).K[s]? =Z (Z {k with out:=⟨#[]⟩}):=by let⟨b,c,e⟩:=Pn h a;refine⟨b,c,(MA _ _).2.1.trans d,?_⟩;have:=GV (MD j4) f.K.length (f.at s<|k.takes 1099511627776) (iy (bY.1 a).1);rw[e]at this;show((f.at s<|k.takes 1099511627776).bQ f.K.length).K[s]? =_;rwa [e]
def Mine.next(h:Mine f aqf s w)(hF:f.Fair)(L:f.stop=aa)(hc:f.clock<1073741824)(hg:f.g=g)(wo:mA W)(hs:iG g W 0 s f)(V:aqf=Uo W)(X:0<aqf)(hn:0<=now)(o:∀(j:Nat) r,W[j]? =Z r->r.bk<0->r.bk= -1)(B:f.tick.K[s]? =Z (Z k1))(yK:k1.out.data.toList=ts.flatMap (iY W))(ah:∀t∈ts,mU 0 W t):
  Uo (dS now W ts)=0\/∃i,i+1<=w/\Mine (f.tick.take s k1 1099511627776) (Uo<|dS now W ts) s i:=by
 let⟨k,q1,q2,q3⟩:=h
 let⟨bD,a1,a2,a3,a4,a5,R⟩:=aea hF L hc hg wo hs q1
 rw[B]at a1;cases a1
 let⟨G,f2,Tk,uW,_⟩:=hF.Jo (m:=0) L hc hF.rest.core.acc
 have Hg:f.tick.g=f.g:=cG (·.1) (Jn f)
 let⟨m1,m2,C,a⟩:=Yw G ((cG (·.2.2)<|Jn f).trans L) B a3
 have p:=(m1 0).fl;have H:=(m1 0).clock;have l:(f.tick.take s k1 1099511627776).g=f.g:=(m1 0).ju.jq.g.trans Hg
 let⟨S,T⟩:=Ii (now:=now) hn ts W
 rw[<-V]at S T;rcases lq (Uo<|dS now W ts) aqf with J|hge
 ·exact (λJ=>Mine.less m2 C a U J j4) J
 have af:(∃b∈f.tick.fl,b.s=s)->(aqf-1) *f.g.Tm+17<=w->∃i,i+1<=w/\Mine (f.tick.take s k1 1099511627776) aqf s i:=λ⟨b,c,d⟩ hw=>by refine⟨(aqf-1) *f.g.Tm+16,Y,_,a,U,.inl ⟨b,by rw[p];exact c,d,16,aR _,?_,by rw[l];exact aR _⟩⟩;rw[H];exact(G.rest.core.fresh b c).2
 rw[E6 S hge];refine .inr ?_;rcases q3 with⟨b,c,d,z,D,e4,e5⟩|⟨c,d,w1,D,e4⟩|⟨c,d,D⟩
 by_cases hd:b.due<=f.clock+1
 exfalso;have:=T ah o (ajr (by rw[<-yK];exact a5 ⟨b,c,d,hd⟩) ah);omega;refine⟨(aqf-1) *f.g.Tm+(z-1),Y,_,a,U,.inl ⟨b,by rw[p];exact a4 b c Y,d,z-1,Y,?_,by rw[l];exact aR _⟩⟩;rw[H,uW];omega
 by_cases v:∃b∈f.tick.fl,b.s=s
 exact af v Y;have q:∀b∈f.tick.fl,b.s≠s:=λb o e=>v ⟨b,o,e⟩
 let⟨x,P⟩:=(R q).1 d
 have hO:=G.ord s k1 B
 have bg:0<f.tick.cA (k.fst.no+1) s:=by rw[om B];exact Nf (DV x (by rw[P];omega))
 let⟨w2,y1,y2⟩:=D.tick hc bg
 let⟨O,y3,y4⟩:=y2.ju (m1 _).ju m2 C (by rw[(m1 0).acc];exact y2.acc) p H (by rw[om a];exact Nf (DV x (by show k1.fst.no<_;rw[P];omega)))
 refine⟨(aqf-1) *f.g.Tm+17+O,Y,_,a,U,.inr (.inl ⟨by rw[p];exact q,x,O,?_,by rw[l];exact aR _⟩)⟩;show mS (k1.fst.no+1) _ s O
 rwa [P]
 by_cases v:∃b∈f.tick.fl,b.s=s
 exact af v Y;have q:∀b∈f.tick.fl,b.s≠s:=λb o e=>v ⟨b,o,e⟩
 have hW:∃(j:Nat) (r:Wi),W[j]? =Z r/\r.u=0/\r.bk= -1:=by rw[V]at X;let⟨r,hr⟩:=List.exists_mem_of_length_pos X;let⟨h1,E⟩:=rO.1 hr;let⟨j,hj⟩:=pJ.1 h1;simp at E;exact⟨j,r,hj,E.1,E.2⟩
 have x:=(R q).2 d c q2 hW
 let⟨kk,z1,z2,n⟩:=Mine.any aqf m2 C a U
 rw[a]at z1;cases z1;rw[l]at n;rcases n with⟨b,n,A,_⟩|⟨n,A,w2,Q,z6⟩|⟨_,A,_⟩;exact absurd A<|q b (p▸n);have hO:=m2.ord s _ a;have bB:=Q.me;refine⟨(aqf-1) *f.g.Tm+17+f.g.Wm,Y,_,a,U,.inr<|.inl ⟨n,A,?_⟩⟩;rw[l]
 let⟨k9,n1,n2,N⟩:=Q.me
 rw[a]at n1;cases n1;have Vj:=WZ (VG m2.rest.core<|(om a).trans N);rw[l]at Vj;exact⟨_,mS.new m2 C Q.acc a n2 N (UQ m2.ord a N),by rw[l];omega⟩;exact absurd A x
end
def TI{n}(h:1<=n/\n<=8):n=1\/n=2\/n=3\/n=4\/n=5\/n=6\/n=7\/n=8:=Y
def ajk{N Q X}(a:1<=N/\N<=8)(b:1<=Q/\Q<=8)(c:5<=X):17*((N-1) *X)+34+2*((N-1) *Q) *(17*((N-2) *X)+34)+20<=(Q+1) *(N+1) *(N*X+4) *18:=by rcases TI a with e|e|e|e|e|e|e|e<;>subst e<;>rcases TI b with e|e|e|e|e|e|e|e<;>subst e<;>simp<;>omega
structure iq(g:Cf)(t:Nat)(f:Fx)(c:Cw):Prop where
 bU:eH g t f c
 fair:f.Fair
 bk:∀(j:Nat) r,c.W[j]? =Z r->r.bk<0->r.bk= -1
 me:∃s,c.S[0]? =Z s/\s.aw=aa
structure mP(g:Cf)(s w:Nat)(z:aV Nat)(t:Nat)(f:Fx)(c:Cw):Prop where
 v:iq g t f c
 aC:∃k,f.Is 0 s k
 mine:Uo c.W=0\/(∃a,z=Z a/\Uo c.W<=a)\/z=aj/\Mine f (Uo c.W) s w
section
variable {g:Cf} {t:Nat} {z:aV Nat} {f f':Fx} {c c':Cw} {i sx s w j:Nat} {sl:Sl} {k:Ck} {r:Wi} {n:Int}
def CI.sent{b}(A:CI g f c i sx k b f' c' r)(hF:f.Fair)(h:f.K[sx]? =Z (Z k)):(f'=f\/f'=f.at sx (k.send r.dV))/\f'.Fair/\(∀m,ko m f f')/\(c'.W=c.W\/c'.W=c.W++[r])/\c'.S=c.S:=by
 have a:f'=(f.send sx k r.dV).1/\(c'.W=c.W\/c'.W=c.W++[r])/\c'.S=c.S:=by rcases A.out with⟨_,_,a,rfl⟩|⟨_,_,a,rfl⟩;exact⟨a,.inl rfl,rfl⟩;exact⟨a,.inr rfl,rfl⟩
 have d:f'=f\/f'=f.at sx (k.send r.dV):=by rw[a.1];unfold Fx.send;grind
 have hR:f'.Rest:=by rw[a.1];exact hF.rest.send h r.dV
 have e:∀m,ko m f (f.at sx<|k.send r.dV)/\(f.at sx<|k.send r.dV).Ord:=λm=>Xb hF h (.inl ⟨U,fI _⟩) U;refine⟨d,?_,?_,a.2⟩;rcases d with rfl|rfl;exact hF;exact hF.DM hR (e 0).1 (e 0).2;rcases d with rfl|rfl;exact λm=>⟨.refl _,U,U,U⟩;exact λm=>(e m).1
def Sj{W W'}(h:∀(j:Nat) r,W[j]? =Z r->r.bk<0->r.bk= -1)(hr:r.bk= -1)(e:W'=W\/W'=W++[r]):∀(j:Nat) x,W'[j]? =Z x->x.bk<0->x.bk= -1:=λj x a b=>by grind
def Sk{W ts}(h:∀(j:Nat) r,W[j]? =Z r->r.bk<0->r.bk= -1)(m:0<=n):∀(j:Nat) x,(dS n W ts)[j]? =Z x->x.bk<0->x.bk= -1:=λj x a d=>by by_cases hm:j∈ts.filterMap Tk.no;rcases e:W[j]? with _|aqi;rw[DW ts W e]at a;cases a;obtain⟨l,z,_,b⟩:=AV ts W aqi hm e;rw[b]at a;grind;rw[tS ts W hm]at a;exact h j x a d
def TF(hF:f.Fair)(hR:f'.Rest)(h:f'=f\/∃u,f'=f.sI u):f'.Fair/\(∀m,ko m f f')/\f'.K=f.K:=by rcases h with rfl|⟨u,rfl⟩;exact⟨hF,λm=>⟨.refl _,U,U,U⟩,U⟩;exact⟨⟨hR,hF.ord,hF.small,hF.opn⟩,λm=>⟨⟨⟨U,U,λt k h=>.inr ⟨k,h,.refl k⟩⟩,U,U,λ_=>aR _⟩,U,U,U⟩,U⟩
def Vm(hF:f.Fair)(a:f.K[sx]? =Z (Z k)):(∀m,ko m f<|f.oX sx k)/\(f.oX sx k).Fair:=by
 have d:(k.jd.q=k.q/\(k.jd.out.size:Int)+k.jd.prom<=k.out.size+k.prom)\/k.jd.q=[]:=by unfold Ck.jd;split;exact .inl ⟨U,fI _⟩;exact .inr U
 have b:k.jd.de=k.de:=by unfold Ck.jd;split<;>rfl
 have key:∀m,ko m f (f.oX sx k)/\(f.oX sx k).Fair:=λm=>hF.goes a d b ((hF.rest.oX a).1) f.K.length;exact⟨λm=>(key m).1,(key 0).2⟩
def Ic(hI:g.Is):tI g (λkd i=>¬(kd=5/\i=0)) (iq g) where
 is:=hI
 run h:=⟨h.bU.rest,h.bU.gg,h.bU.stop,h.bU.bF⟩
 dO h:=h.bU.dO
 wo h:=h.bU.wo
 aC h hs ha:=h.bU.Ho hs ha
 stay h:=⟨h.bU.stay,h.fair,h.bk,h.me⟩
 tick _ h ht:=⟨h.bU.tick ht,(h.fair.Jo (m:=0) h.bU.stop E3 h.bU.rest.core.acc).1,h.bk,h.me⟩
 dG h a b d:=⟨h.bU.dG a b d,(TF h.fair a<|b.imp id λ⟨u,h,_⟩=>⟨u,h⟩).1,h.bk,h.me⟩
 full h hj:=h.bU.full hj
 free h hj:=h.bU.free hj
 enter h hj _ hw:=⟨h.bU.enter hj hw,(h.fair.ku (m:=0) hj _ (h.bU.enter hj hw).rest).2,h.bk,by let⟨s,a,b⟩:=h.me;exact⟨s,by rw[BS (bY.1 a).1];exact a,b⟩⟩
 ask _ h hs ha hu uW A:=by let⟨a,b⟩:=h.bU.ask E3 hs ha hu uW A;let⟨_,o,_,p,q⟩:=A.sent h.fair hu.at_;exact⟨a,b,o,Sj h.bk A.good.er.2.2 p,by rw[q];exact h.me⟩
 take {t f c i sx s k} _ h hs ha hu:=by let⟨v,a,b,d,l⟩:=h.bU.take (n:=c.now+1) E3 hs ha hu;exact⟨v,a,b,d,l,(Pn h.fair hu.at_).2.1,Sk h.bk E3,h.me⟩
 leave hA h hs ha hu:=by let⟨a,b⟩:=h.bU.leave hs ha hu;refine⟨a,b,(Vm h.fair hu.at_).2,h.bk,?_⟩;let⟨s,d,l⟩:=h.me;exact⟨s,by rw[gQ λe=>hA ⟨U,e⟩];exact d,l⟩
def K2{W W'}(hr:r.u≠0)(e:W'=W\/W'=W++[r]):Uo W'=Uo W:=by rcases e with rfl|rfl;rfl;unfold Uo;grind
def mP.step(h:mP g s w z t f c)(hv:iq g (t+1) f' c')(l:∀m,ko m f f')(b:f'.K[s]? =f.K[s]?)(o:Uo c'.W<=Uo c.W):mP g s w z (t+1) f' c':=by let⟨k,d⟩:=h.aC;refine⟨hv,⟨k,d.no▸hv.bU.rest.core.is (b.trans d.at_)⟩,?_⟩;rcases h.mine with h0|⟨e,a,p⟩|⟨h0,a⟩;exact .inl Y;exact .inr<|.inl ⟨e,a,Y⟩;exact(a.DM l hv.fair hv.bU.stop b o).imp id λh=>.inr ⟨h0,h⟩
def mP.open(h:mP g s w z t f c)(d:f.Is 0 s k):k.ph<3:=by let⟨sl,a,b⟩:=h.v.me;have:=(h.v.bU.Jp a b d).open;omega
def adq(hI:g.Is):tI g (λ_ i=>i≠0) (mP g s w z):=by
 have d:=Ic hI;have ne:∀{f:Fx} {i sx:Nat} {k S:Ck},i≠0->f.Is i sx k->f.Is 0 s S->sx≠s:=λX a J e=>by subst e;have p:=a.at_;rw[J.at_]at p;cases p;have:=a.no;have:=J.no;omega
 refine⟨hI,λh=>d.run h.v,λh=>d.dO h.v,λh=>d.wo h.v,λh=>d.aC h.v,λ{t f c} h=>h.step (d.stay h.v) (λm=>⟨.refl _,U,U,U⟩) U<|aR _,λo _ _=>absurd U o,λ{t f c f' V} h p D G=>?_,λh=>d.full h.v,λh=>d.free h.v,λ{t f c j k} h E P R=>?_,λ{t f c i sx sl k b f' c' r} o h B q a O A=>?_,λ{t f c i sx sl k} o h B q a=>?_,λ{t f c i sx sl k} o h B q a=>?_⟩;let⟨_,H,a3⟩:=TF h.v.fair p (D.imp id λ⟨u,h,_⟩=>⟨u,h⟩);exact h.step (d.dG h.v p D G) H (by rw[a3]) (aR _);have hv:=d.enter h.v E P R;let⟨C,l⟩:=h.aC;refine h.step hv (λm=>(h.v.fair.ku E _ hv.bU.rest).1) ?_<|aR _;have Q:j≠s:=λe=>by rw[e,l.at_]at E;cases E
 show((f.K.set j _).set j _)[s]? =_;rw[pK,gQ Q];let⟨e,hv⟩:=d.ask (λx=>o x.2) h.v B q a O A;let⟨a1,H,a3,N,T⟩:=A.sent h.v.fair a.at_;let⟨C,l⟩:=h.aC;refine⟨e,h.step hv a3 ?_ (xV (K2 (by rw[A.is.1];exact o) N))⟩;grind;let⟨L,p,D,G,hv⟩:=d.take (λx=>o x.2) h.v B q a;let⟨C,l⟩:=h.aC;refine⟨L,p,D,G,h.step hv (Pn h.v.fair a.at_).1 ?_ (Ii (by have:=h.v.bU.dO;omega) L c.W).1⟩;have:(f.at sx<|k.takes 1099511627776).K[s]? =Z (Z C):=(gQ<|ne o a l).trans l.at_;exact(GV (MD<|h.open l) _ _ this).trans l.at_.symm;let⟨p,hv⟩:=d.leave (λx=>o x.2) h.v B q a;let⟨C,l⟩:=h.aC;refine⟨p,h.step hv (Vm h.v.fair a.at_).1 ?_ (aR _)⟩;have:(f.at sx k.jd).K[s]? =Z (Z C):=(gQ<|ne o a l).trans l.at_;exact(GV (MD<|h.open l) _ _ this).trans l.at_.symm
end
section
open Go.ConcR (Payload)
section
variable {g:Cf} {t t':Nat} {f:Fx} {c:Cw} {i sx s w j n:Nat} {sl:Sl} {k k1:Ck} {r:Wi}
def Fx.Host.fair{wt}(h:f.Host g wt n):f.Fair:=by
 have at_:∀(t:Nat) k,f.K[t]? =Z (Z k)->k.q=[]/\k.de=0:=λt k a=>by rcases lq t n with h1|h1;rw[h.uX t h1]at a;cases a;exact⟨rfl,rfl⟩;rw[h.out t h1 (bY.1 a).1]at a;cases a
 refine⟨h.rest,λt k a=>?_,λt=>?_,λe=>by rw[h.idle.2.2.2.2]at e;cases e⟩;unfold Ck.Ord;rw[(at_ t k a).1];exact⟨.nil,λr hr=>by cases hr⟩;rcases e:f.K[t]? with _|o;exact cO _;cases o with
 |none=>exact cO _
 |some k=>show k.de.toNat<=_;rw[(at_ t k e).2];exact cO _
def Fx.Host.lv0{wt}(hI:g.Is)(h:f.Host g wt n)(d:1<=n)(b:(n:Int)<=g.cl):iq g 0 f (nV wt n):=by refine⟨h.bU hI b,h.fair,λj r a=>M3,⟨wt 0,⟨#[]⟩,aa⟩,?_,U⟩;grind
def eH.more(h:eH g t f c)(a:t<=t'):eH g t' f c:=⟨h.is,h.rest,h.gg,h.stop,h.bF,by have:=h.dO;omega,h.ck,h.one,h.two,h.hd,h.aC⟩
def iq.more(h:iq g t f c)(a:t<=t'):iq g t' f c:=⟨h.bU.more a,h.fair,h.bk,h.me⟩
def Ys:∀(l m:av Nat),l.Nodup->(∀x∈l,x∈m)->l.length<=m.length
 |[],m,_,_=>cO _|x::l,m,b,h=>by obtain⟨o,a⟩:=vV.1 b;have q:=h x fJ;have:=Ys l (m.erase x) a λe d=>(List.mem_erase_of_ne j4).2 (h e<|gC _ d);grind
def SI(p:Wi->Bool):∀W:av Wi,∃l:av Nat,l.length=(W.filter p).length/\l.Nodup/\∀j∈l,∃r,W[j]? =Z r/\p r=M
 |[]=>⟨[],U,xS,λj h=>by cases h⟩|r::W=>by
  obtain⟨l,a,o,v⟩:=SI p W;have b:(l.map (·+1)).Nodup:=Fp.2 (o.imp λh e=>h Y);have d:∀j∈l.map (·+1),∃x,(r::W)[j]? =Z x/\p x=M:=λj hj=>by grind
  rw[List.filter_cons];split;rename_i q;refine⟨0::l.map (·+1),D2,vV.2 ⟨λh=>?_,b⟩,λj hj=>?_⟩;let⟨i,_,e⟩:=jY.1 h;omega;rcases jh.1 hj with rfl|hj;exact⟨r,rfl,q⟩;exact d j hj;exact⟨l.map (·+1),D2,b,d⟩
def Uc{a:Type}{φ:a->av UInt8}{c}:∀(l:av a),(∀x∈l,c<=(φ x).length)->c*l.length<=(l.flatMap φ).length
 |[],_=>by simp|x::l,h=>by have e:=h x fJ;have o:=Uc l λd b=>h d (gC _ b);rw[pH,fQ,gH,Nat.mul_add];omega
def Pr(W):∀a:av Tk,4*(a.filterMap Tk.no).length<=(a.flatMap<|iY W).length
 |[]=>aR _|.inl b::a=>by have:=Pr W a;show 4*(a.filterMap Tk.no).length<=([b]++a.flatMap (iY W)).length;grind|.inr (j,e,x)::a=>by have:=Pr W a;show 4*(j::a.filterMap Tk.no).length<=((82::e::(cu (iW W j)++x))++a.flatMap (iY W)).length;have d:(cu ((iW W j:Nat):Int)).length=2:=U;grind
def VD(s):∀l:av Jb,((gO l s).length:Int)=gw l s
 |[]=>rfl|b::l=>by show(((if b.s=s then b.rs else[])++gO l s).length:Int)=(if b.s=s then(b.rs.length:Int)else 0)+gw l s;rw[fQ,Int.natCast_add,VD s l];split<;>simp
def eH.uo(h:eH g t f c)(G:c.S[0]? =Z sl)(E:sl.aw=aa)(v:f.Is 0 sx k):Uo c.W<=249:=by
 let⟨z,J,H,x,T⟩:=h.Jp G E v;let⟨l,A,B,C⟩:=SI (λr=>decide (r.u=0)&&decide (r.bk= -1)) c.W;have D:=Ys l _ B λj b=>by let⟨r,e,o⟩:=C j b;simp at o;exact T.all j r e o.1 o.2
 let⟨d,R,V⟩:=h.rest.core.cl sx k v.at_;have N:z.length<=1024 / 9:=by
  have a1:=Uc (φ:=rz c.W) z λj b=>by let⟨r,e,_⟩:=T.ok j (by simp[b]);rw[Jw e];have:=ED r;show 9<=r.dV.data.toList.length;rw[lQ];show 9<=r.dV.size;omega
  have a:=zb T.aN;rw[fQ]at a;have a3:=d.aN;omega
 have O:J.length<=8:=by have a1:=cG BU T.q;rw[pI,pI]at a1;have a:=d.len;have a3:=h.rest.core.g.qu;omega
 have P:H.length<=64:=by have a1:=cG BU T.fl;rw[pI,pI]at a1;have a:=(h.rest.core.bw sx).2;have a3:=VD sx f.fl;omega
 have Q:(x.filterMap Tk.no).length<=64:=by have a1:=Pr c.W x;have a:=zb T.out;have a3:=d.out;have K:=h.rest.core.g.ou;have L:=h.rest.core.prom sx;omega
 rw[fQ,fQ,fQ,A]at D;unfold Uo;omega
def mP.next{z}(h:mP g s w z t f c)(V:t<1073741824)(d:f.tick.Is 0 s k1):∃a,k1.out.data.toList=a.flatMap (iY c.W)/\(∀t∈a,mU 0 c.W t)/\(a.filterMap Tk.no).Nodup/\∃o,(Uo (dS (c.now+1) c.W a)=0\/(∃b,z=Z b/\o+2<=b*g.Tm)\/z=aj/\o+1<=w)/\mP g s o aj (t+2) (f.tick.take s k1 1099511627776) {c.late with W:=dS (c.now+1) c.W a}:=by
 have D:=(Ic h.v.bU.is).tick ay h.v V;let⟨sl,K,L⟩:=h.v.me;have ah:=h.v.bU.dO;let⟨a,a1,H,a3,J⟩:=D.bU.take (n:=c.now+1) j4 K L d;let⟨k,S⟩:=h.aC;have O:iG g c.W 0 s f:=by let⟨sx,G,b1,B,C⟩:=h.v.bU.aC 0 sl K L;have:=S.one sx G b1 (by rw[B];rfl);subst this;exact⟨G,b1,B,C⟩
 have T:k1.ph=2:=by let⟨G,b1,B,C,_⟩:=O.tick h.v.bU.rest Y h.v.bU.gg h.v.bU.stop h.v.bU.wo;rw[d.at_]at b1;cases b1;exact C
 let⟨m1,m2,X,P⟩:=Yw D.fair D.bU.stop d.at_ T;have A:iq g (t+2) (f.tick.take s k1 1099511627776) {c.late with W:=dS (c.now+1) c.W a}:=⟨J,m2,Sk h.v.bk Y,h.v.me⟩;have x:=d.no▸m2.rest.core.is P;refine⟨a,a1,H,a3,?_⟩;have ak:=(Ii (now:=c.now+1) Y a c.W).1;rcases qF (Uo<|dS (c.now+1) c.W a)with h0|hp;·exact⟨0,.inl h0,A,⟨_,x⟩,.inl h0⟩
 rcases h.mine with h0|⟨b,E,af⟩|⟨E,hm⟩;omega;have N:=Mine.any (Uo<|dS (c.now+1) c.W a) m2 X P U;rw[J.gg]at N;have e:(Uo (dS (c.now+1) c.W a)-1) *g.Tm+g.Tm<=b*g.Tm:=by rw[<-Ce];exact th _ Y
 exact⟨_,.inr (.inl ⟨b,E,by unfold Cf.Tm at*;omega⟩),A,⟨_,x⟩,.inr<|.inr ⟨U,N⟩⟩;rcases hm.next h.v.fair h.v.bU.stop Y h.v.bU.gg h.v.bU.wo O rfl Y (now:=c.now+1) Y h.v.bk d.at_ a1 H with q|⟨o,q,Q⟩;exact⟨0,.inl q,A,⟨_,x⟩,.inl q⟩;exact⟨o,.inr<|.inr ⟨E,q⟩,A,⟨_,x⟩,.inr<|.inr ⟨U,Q⟩⟩
end
section
variable [an] {l:av aZ} {u:aq} {g:Cf} {cb xb:Nat} {f:Fx} {c:Cw} {m:Cm} {t p s:Nat} {k:Ck}
def adD(K:Fit prog l)(N:an.ok 24)(h:iq g t f c)(V:t<1073741824)(B:fj u g cb xb f c m)(O:m.ps[0]? =Z p)(aqi z)(hy:dy aqi)(P:dy z):
  dX prog 24 #[pt cb,pt p,I aqi,I z] u λe Q=>e=aG (.bool M)/\gL g (iq g) (t+1) cb xb m.ps Q:=by
 refine dX.lift K N (λe u a h=>⟨h.1,h.2.tp a⟩) (λe u h=>⟨_,h.1⟩) λa=>?_
 let⟨L,T⟩:=B.tp a
 let⟨sl,q,v⟩:=h.me
 by_cases x:c.ck<60000
 let⟨_,sx,k,d⟩:=h.bU.Ho q v
 have S:=h.bU.rest.core.small;have W:=h.bU.dO.2.2.2.1;apply(RY cb xb g f c L m (u.tp a) T 0 p sx sl k aqi z hy P h.bU.is x q O d Y (h.bU.rest.core.cl sx k d.at_).1.aN Y).mono;rintro e R ⟨b,G,E,r,rfl,o,H⟩;obtain⟨rfl,J⟩:=h.bU.ask (n:=c.now) (by have:=h.bU.dO;push_cast;omega) q v d x o
 let⟨_,A,_,C,D⟩:=o.sent h.fair d.at_
 exact⟨U,G,E,⟨J,A,Sj h.bk o.good.er.2.2 C,by rw[D];exact h.me⟩,H⟩;apply(RZ cb xb g f c L m (u.tp a) T p aqi z Y).mono;rintro e R ⟨rfl,rfl⟩;exact⟨U,f,c,h.more Y,L,m,T,qD _⟩
def adE{ts}(A:Fit prog l)(C:an.ok 27)(h:iq g t f c)(B:fj u g cb xb f c m)(D:m.ps[0]? =Z p)(a:f.Is 0 s k)(q:k.out.data.toList=ts.flatMap (iY c.W))(v:∀t∈ts,mU 0 c.W t)(x:(ts.filterMap Tk.no).Nodup):
  dX prog 27 #[pt cb,pt p] u λe E=>e=aG (.bool M)/\fj E g cb xb (f.take s k 1099511627776) {c with W:=dS c.now c.W ts} m:=by
 refine dX.lift A C (λe u b h=>⟨h.1,h.2.tp b⟩) (λe u h=>⟨_,h.1⟩) λb=>?_
 let⟨L,T⟩:=B.tp b
 let⟨sl,d,G⟩:=h.me
 have hR:=h.bU.rest;have O:=hR.core.small;have H:=(hR.core.cl s k a.at_).1.out;have N:=(hR.core.cl s k a.at_).2.2;have K:=hR.core.prom s;have J:=hR.core.g.ou;apply(Zh cb xb g f c L m (u.tp b) T 0 p s sl k d D (h.bU.hd 0 sl d) a Y (hR.take a.at_ _).1.core.stay ts q v x h.bU.wo Y h.bU.dO.2.1.1).mono;rintro e P ⟨rfl,o,z⟩;exact⟨U,o,z⟩
variable [oM]
def adF(G:CR l)(h:iq g t f c)(z:t<1073741824)(B:fj u g cb xb f c.late m):dX prog 26 #[pt xb] u λe a=>e=aG (.tuple #[])/\fj a g cb xb f.tick c.late m:=by let⟨L,T⟩:=B;refine(T.fx.ticks bld G h.bU.rest E3).mono ?_;rintro e a ⟨rfl,x,v,d,o⟩;let⟨b,q⟩:=T.go d o;exact⟨U,b,q⟩
end
def T8(cb xb g)(c:Cw)(m:Cm)(w)(h:w.heap[cb]? =Z (au (uQ g xb c m) 40 (0,0)))(hI:g.Is)(hd:c.dl=16):Calls prog 25 #[jp cb] w λe z=>∃B:Int,e=aG (I B)/\((g.Tm:Int)<=B/\B<=938952)/\z=w.drew:=by
 have O:=aJ w cb 1 (I g.cl) h;have R:=aJ w cb 2 (I g.qu) h;have S:=aJ w cb 4 (I g.qn) h;have P:w.cell? (F cb 13)=Z (I 16):=hd▸aD h U;have G:Hid g.Is:=hI;clear h hI hd;go_enter func25,ntmps25;go_upto_region 1 with fail;go_region_held3 (λz=>z=w.drew) (first|rfl|assumption) (fail);go_wp2;go_ret;have hI:=G;have hm:=hI.mx;have E:=hI.qn;have hc:=hI.cl;let⟨o,C,H,v⟩:=Q9 (n:=g.qn) (d:=16) hI.qu hI.cl Y aM U U;have x:(5*g.cl*g.qn).tdiv 4=5*g.cl*g.qn / 4:=EX (by have:=AR (a:=5*g.cl) (b:=g.qn) (A:=40) (B:=64) Y Y Y Y;omega);have J:(16:Int)+2=18:=U;rw[J]at o v;rw[C];refine⟨_,U,?_,U⟩;rw[o];rw[x]at v⊢
 exact⟨(by
      obtain⟨N,K⟩:∃N:Nat,g.cl=N:=⟨g.cl.toNat,by have:=hI.cl;omega⟩;obtain⟨Q,L⟩:∃Q:Nat,g.qu=Q:=⟨g.qu.toNat,by have:=hI.qu;omega⟩;obtain⟨q,E⟩:∃q:Nat,g.qn=q:=⟨g.qn.toNat,by have:=hI.qn;have:=hI.mx;omega⟩;have T:=hI.cl;have V:=hI.qu;have W:=hI.qn;have h4:=hI.mx;have D:g.X=5*q / 4:=j4;have o:N*g.X+4<=5*N*q / 4+4:=by
       rw[D];have:N*(5*q / 4)<=5*N*q / 4:=by rw[Nat.le_div_iff_mul_le aM,Nat.mul_assoc,show 5*N*q=N*(5*q) by rw[Nat.mul_comm 5 N,Nat.mul_assoc]];exact E8 N (Nat.div_mul_le_self _ _)
       omega
      have C:=ajk (N:=N) (Q:=Q) (X:=g.X) Y Y (by rw[D];omega);have H:(Q+1) *(N+1) *(N*g.X+4) *18<=(Q+1) *(N+1) *(5*N*q / 4+4) *18:=th 18 (E8 _ o);have v:g.Tm=17*((N-1) *g.X)+34+2*((N-1) *Q) *(17*((N-2) *g.X)+34)+20:=by unfold Cf.Tm Cf.Wm;rw[show g.cl.toNat=N by omega,show g.qu.toNat=Q by omega]
      have x:g.Tm<=(Q+1) *(N+1) *(5*N*q / 4+4) *18:=Y;rw[K,L,E];exact_mod_cast x),v⟩
end
section
attribute [local go_sem] cz cE Dj Dl vB
open Go.ConcR (Payload)
abbrev L9(v0 v1 v2 v3:aB)(cb:Nat)(r:av (Nat×aB)):av (Nat×aB):=(0,v0)::(1,v1)::(2,v2)::(3,v3)::(9,pt cb)::r
abbrev iK(b o:Nat):aB:=.pointer (Z (F b o))
section
variable [an] [oM] {l:av aZ} {u:aq} {a:Act} {g:Cf} {cb xb n1 c1 n2 c2:Nat} {v0 v1 v2 v3:aB} {a1 a2:aV iL} {Q:Exit->Act->aq->Prop}
def LvA(v0 v1 v2 v3:aB)(cb xb n1:Nat)(g:Cf)(a:Act)(u:aq):Prop:=∃i:Nat,Fa 201 a (L9 v0 v1 v2 v3 cb [(10,I (i:Int))])/\i<=n1/\gL g (iq g) i cb xb [] u
def ads(G:wH l)(kD:an.known 22)(hI:g.Is)(aQ:wN a1 n1)(hn:n1<=1048576)(E:Fa 201 a (L9 v0 (.slice a1 n1 c1) v2 v3 cb []))(B:gL g (iq g) 0 cb xb [] u)(hQ:∀a u,Fa 201 a (L9 v0 (.slice a1 n1 c1) v2 v3 cb [])->gL g (iq g) n1 cb xb [] u->Q .normal a u):
  FX dR 9 prog (kv<|dg<|dg<|dg<|nS f9) Q a u:=by
 have hT:=G.x.fit;have S:=Ic hI;refine FX.sq<|FX.reg [0] ?_;refine FE.ow E λa _ E=>GO.nil ?_;refine FX.bk 0<|FX.lp (LvA v0 (.slice a1 n1 c1) v2 v3 cb xb n1 g) (λa _=>leftOf n1 10 a) ⟨0,E.to,cO _,B⟩ ?_;clear B E;rintro a u ⟨i,E,hi,B⟩;have aL:=tP (n:=n1) (E.at_ 10 _ U);refine FX.sq<|FX.sq<|FX.reg [0,1,2,3] ?_;refine FE.ow E λa _ E=>?_;refine FE.bl E λa _ E=>?_;refine FE.ln E λa _ E=>?_
 by_cases ah:i<n1
 ·have H:(i:Int)<(n1:Int):=Y;refine FE.ow (v:=.bool M) E λa _ E=>GO.nil ?_;refine FX.cT E<|FX.sk ?_;replace E:Fa 201 a (L9 v0 (.slice a1 n1 c1) v2 v3 cb [(10,I (i:Int))]):=E.to;obtain⟨C,tq,ob,tz,rfl,aS,aT⟩:=aQ.resolve_left Y;have z:=aT i ah;obtain⟨f,c,h,D,m,T,bE⟩:=B;refine FX.sj (λa u=>Fa 201 a (L9 v0 (.slice (Z<|F C tq) n1 c1) v2 v3 cb [(10,I (i:Int))])/\gL g (iq g) (i+1) cb xb [] u) (FX.bk 1 ?_) ?_
  ·refine FX.sq<|FX.reg [0,1,2,3,4,5] ?_;refine FE.bl E λa _ E=>?_;refine FE.ow E λa _ E=>?_;refine FE.bl (v:=iK C<|tq+i*4) E (hr:=λw=>by go_simp) (he:=λw=>Dm (m:=n1) (c0:=c1) (ad:=F C tq) (j:=i) w U U aW Y) λa _ E=>?_;refine FE.stp (tq:=tq+i*4) (tz:=tz i) aS z E λa E=>?_;refine FE.nw (v:=pt u.heap.size) E (u.alloc<|au (stA 0 0 0 0) 46) (hr:=λτ=>by go_simp;rfl) λa _ E=>?_;refine FE.sa E (new1 U) λJ q h2 h3=>GO.nil ?_;have K:bz J g cb xb f c D m:=T.old λb t=>(h2 b Y).trans (((Below.refl _ u).alloc (aR _) _).block b t);have bB:=(z 0 aM).1;have AI:=(z 1 aM).1;have aE:=(z 2 aM).1;have aH:=(z 3 aM).1;obtain⟨lv,wv,ps,qs⟩:=m;obtain⟨W,lc,O⟩:=gP K.gV;have O:lv=.slice W c.S.length lc:=O;subst O;generalize tz i 0=kd at*;generalize tz i 1=s at*;generalize tz i 2=y1 at*;generalize tz i 3=z1 at*;generalize u.heap.size=A at*
   replace E:Fa 201 a (L9 v0 (.slice (Z<|F C tq) n1 c1) v2 v3 cb [(10,I (i:Int)),(11,pt A)]):=E.to;have hS:=(S.dO h).2.2.1;obtain⟨s0,aN,_⟩:=h.me;have He:0<c.S.length:=(bY.1 aN).1;have L:=K.cr;refine FX.sq<|FX.sj (λa u=>∃b:Bool,(b=M\/(kd=5->eX s c.S.length≠0))/\Fa 201 a (L9 v0 (.slice (Z<|F C tq) n1 c1) v2 v3 cb [(10,I (i:Int)),(11,pt A),(51,.bool b)])/\u.heap=J.heap) ?_ ?_;by_cases V:kd=5;have E9:=E;subst V;have E:=E9;refine(FX.dr 14 13 (λj v=>match j with|0=>v=iK A 0|1=>v=I 5|2=>v=.bool M|3=>v=.bool M|4=>v=iK A 1|5=>v=I s|6=>v=pt cb|7=>v=pt cb|8=>v=iK cb 10|9=>v=.slice W c.S.length lc|10=>v=I (c.S.length:Int)|11=>v=I (eX s c.S.length)|12=>v=.bool (eX s c.S.length==0)|_=>True) E (λr p x R a is E d o=>?_) λr p a E hv=>?_)
   ·rw[show J.heap=r.heap by rw[p]]at q L;clear p;match x,R with
    |0,_=>exact FE.ow E<|dk o
    |1,_=>exact FE.lc (E.dd<|d 0 U) q<|dk o
    |2,_=>exact FE.ow (E.dd<|d 1 U)<|dk o
    |3,_=>exact FE.ow (E.dd<|d 2 U)<|dk o
    |4,_=>exact FE.ow (E.dd<|d 3 U)<|dk o
    |5,_=>exact FE.lc ((E.dd<|d 3 U).dd<|d 4 U) q<|dk o
    |6,_=>exact FE.ow (E.dd<|d 3 U)<|dk o
    |7,_=>exact FE.ow ((E.dd<|d 3 U).dd<|d 6 U)<|dk o
    |8,_=>exact FE.ow ((E.dd<|d 3 U).dd<|d 7 U)<|dk o
    |9,_=>exact FE.lc ((E.dd<|d 3 U).dd<|d 8 U) L<|dk o
    |10,_=>exact FE.ln ((E.dd<|d 3 U).dd<|d 9 U)<|dk o
    |11,_=>exact FE.pkz G.k AI (((E.dd<|d 3 U).dd<|d 5 U).dd<|d 10 U)<|dk o
    |12,_=>exact FE.ow ((E.dd<|d 3 U).dd<|d 11 U)<|dk o
    |m+13,hm=>omega
   replace E:=(E.dd<|hv 3 U).dd (hv 12 U);refine eP.one (j:=13) aW λis N=>FE.ow E λa _ E=>N a r (eP.none aW ?_);refine⟨_,?_,E.to,by rw[p]⟩;by_cases h0:eX s c.S.length=0;exact aA (by simp[h0]);exact az λ_=>h0;have b5:(kd==5)=aa:=by simpa using V
   refine(FX.dr 14 13 (λj v=>match j with|0=>v=iK A 0|1=>v=I kd|2=>v=.bool aa|3=>v=.bool aa|4=>v=y|5=>v=y|6=>v=y|7=>v=y|8=>v=y|9=>v=y|10=>v=y|11=>v=y|12=>v=y|_=>True) E (λr p x R a is E d o=>?_) λr p a E hv=>?_)
   ·rw[show J.heap=r.heap by rw[p]]at q L;clear p;match x,R with
    |0,_=>exact FE.ow E<|dk o
    |1,_=>exact FE.lc (E.dd<|d 0 U) q<|dk o
    |2,_=>exact FE.ow (v:=.bool aa) (E.dd<|d 1 U)<|dk o
    |3,_=>exact FE.ow (E.dd<|d 2 U)<|dk o
    |4,_=>exact FE.gh (E.dd<|d 3 U)<|dk o
    |5,_=>exact FE.gh (E.dd<|d 3 U)<|dk o
    |6,_=>exact FE.gh (E.dd<|d 3 U)<|dk o
    |7,_=>exact FE.gh (E.dd<|d 3 U)<|dk o
    |8,_=>exact FE.gh (E.dd<|d 3 U)<|dk o
    |9,_=>exact FE.gh (E.dd<|d 3 U)<|dk o
    |10,_=>exact FE.gh (E.dd<|d 3 U)<|dk o
    |11,_=>exact FE.gh (E.dd<|d 3 U)<|dk o
    |12,_=>exact FE.gh (E.dd<|d 3 U)<|dk o
    |m+13,hm=>omega
   replace E:=(E.dd<|hv 3 U).dd (hv 12 U);refine eP.one (j:=13) aW λis N=>FE.ow E λa _ E=>N a r (eP.none aW ?_);exact⟨_,az λe=>absurd e V,E.to,by rw[p]⟩;rintro a u ⟨b,t,E,H⟩;have X:bz u g cb xb f c D ⟨.slice W c.S.length lc,wv,ps,qs⟩:=K.old λb _=>by rw[H]
   rw[<-H]at q;cases b with
   |true=>refine FX.cT E<|FX.ex 1 ⟨E.to,f,c,h.more Y,D,_,X,C2⟩
   |false=>refine FX.cF E<|FX.sk ?_;refine FX.sq<|FX.reg [0,1,2,3] ?_;refine FE.ow E λa _ E=>?_;refine FE.lst hT E q λa _ E=>?_;refine FE.cp (v0:=pt cb) (k0:=9) E func22 kD Xs (λρ aX=>Tl cb _ _ _ _ ρ aX) ((Tn G S h Y ⟨D,X⟩ kd s y1 z1 AI aE aH ⟨λ_ x=>(by cases x.1),λj h1 h2 h3 x=>(t.resolve_left ay) x.1 (by rw[<-h1,x.2];rfl)⟩).mono ?_);rintro e u2 ⟨rfl,P⟩;refine⟨_,U,λa _ E=>?_⟩;refine FE.ow E λa _ E=>GO.nil ?_;refine FX.sq<|FX.reg [0,1] ?_;refine FE.ow E λa _ E=>?_;refine FE.ow (v:=.bool aa) E λa _ E=>GO.nil ?_;refine FX.cF E<|FX.sk ⟨E.to,P.mono C2⟩
  rintro a u ⟨E,P⟩;refine FX.reg [0,1,2] ?_;refine FE.ow E λa _ E=>?_;refine FE.ar E λa _ E=>?_;refine FE.ow E λa _ E=>GO.nil ?_;rw[show(i:Int)+1=((i+1:Nat):Int) by simp]at E;refine⟨⟨i+1,E.to,ah,P⟩,?_⟩;rw[aL,tP (n:=n1)<|E.at_ 10 _ U];omega
 have H:¬(i:Int)<(n1:Int):=Y;refine FE.ow (v:=.bool aa) E λa _ E=>GO.nil ?_;refine FX.cF E<|FX.ex 0 ?_;have e:i=n1:=Y;subst e;exact hQ _ _ E.to B
def LvB(v0 v1 v2 v3:aB)(cb xb p n2 t:Nat)(g:Cf)(a:Act)(u:aq):Prop:=∃i:Nat,Fa 201 a (L9 v0 v1 v2 v3 cb [(13,pt p),(14,I (i:Int))])/\(i<=n2/\i<=8)/\gL g (iq g) (t+i) cb xb [p] u
def Xa{ps}{p:Nat}(h:[p]<+:ps):ps[0]? =Z p:=by obtain⟨t,rfl⟩:=h;rfl
def adr{p t:Nat}(G:wH l)(hI:g.Is)(af:wN a2 n2)(hn:n2<=1048576)(ht:t<=1048576)(E:Fa 201 a (L9 v0 v1 (.slice a2 n2 c2) v3 cb [(13,pt p)]))(B:gL g (iq g) t cb xb [p] u)(D:∀a u N,N<=t+8->Fa 201 a (L9 v0 v1 (.slice a2 n2 c2) v3 cb [(13,pt p)])->gL g (iq g) N cb xb [p] u->Q .normal a u):
  FX dR 9 prog (kv<|dg<|dg<|dg<|dg<|dg<|nS f9) Q a u:=by
 have V:=G.x.fit;have aE:=hI.qu;refine FX.sq<|FX.reg [0] ?_;refine FE.ow E λa _ E=>GO.nil ?_;refine FX.bk 2<|FX.lp (LvB v0 v1 (.slice a2 n2 c2) v3 cb xb p n2 t g) (λa _=>leftOf n2 14 a) ⟨0,E.to,⟨cO _,cO _⟩,B⟩ ?_;clear B E;rintro a u ⟨i,E,hi,B⟩;have X:=tP (n:=n2) (E.at_ 14 _ U);obtain⟨f,c,h,z,m,T,r⟩:=B;have S:=T.cr;refine FX.sq<|FX.sq<|FX.reg [0,1,2,3,4,5,6,7,8,9,10,11,12] ?_;refine FE.ow E λa _ E=>?_;refine FE.bl E λa _ E=>?_;refine FE.ln E λa _ E=>?_
 by_cases J:i<n2
 ·have W:(i:Int)<(n2:Int):=Y;refine FE.ow (v:=.bool M) E λa _ E=>?_;iterate 6 refine FE.ow E λa _ E=>?_
  refine FE.lc E S λa _ E=>?_;by_cases hq:(i:Int)<g.qu
  ·refine FE.ow (v:=.bool M) E λa _ E=>?_;refine FE.ow E λa _ E=>GO.nil ?_;refine FX.cT E<|FX.sk ?_;replace E:Fa 201 a (L9 v0 v1 (.slice a2 n2 c2) v3 cb [(13,pt p),(14,I (i:Int))]):=E.to;obtain⟨b,d,ob,O,rfl,K,ah⟩:=af.resolve_left Y;have H:0<=(i:Int)/\(i:Int)<(n2:Int):=Y;have s:=ah i J;refine FX.sj (λa u=>Fa 201 a (L9 v0 v1 (.slice (Z<|F b d) n2 c2) v3 cb [(13,pt p),(14,I (i:Int))])/\gL g (iq g) (t+(i+1)) cb xb [p] u) (FX.bk 3 ?_) ?_
   ·refine FX.sq<|FX.dr 14 12 (λj v=>match j with|0=>v=pt cb|1=>v=pt p|2=>v=.slice (Z<|F b d) n2 c2|3=>v=I (i:Int)|4=>v=iK b (d+i*4)|5=>v=iK b (d+i*4+2)|6=>v=I (O i 2)|7=>v=.slice (Z<|F b d) n2 c2|8=>v=I (i:Int)|9=>v=iK b (d+i*4)|10=>v=iK b (d+i*4+3)|11=>v=I (O i 3)|_=>True) E (λP L x hx a is E q k=>?_) λP L a E hv=>?_
    ·match x,hx with
     |0,_=>exact FE.ow E<|dk k
     |1,_=>exact FE.ow E<|dk k
     |2,_=>exact FE.bl E<|dk k
     |3,_=>exact FE.ow E<|dk k
     |4,_=>exact FE.bl (v:=iK b<|d+i*4) ((E.dd<|q 2 U).dd<|q 3 U) (hr:=λw=>by go_simp) (he:=λw=>Dm (m:=n2) (c0:=c2) (ad:=F b d) (j:=i) w U U aW H) (dk k)
     |5,_=>exact FE.bl (v:=iK b<|d+i*4+2) (E.dd<|q 4 U)<|dk k
     |6,_=>exact FE.p1 K (E.dd<|q 5 U) (s 2 aM).2 (dk k)
     |7,_=>exact FE.bl E<|dk k
     |8,_=>exact FE.ow E<|dk k
     |9,_=>exact FE.bl (v:=iK b<|d+i*4) ((E.dd<|q 7 U).dd<|q 8 U) (hr:=λw=>by go_simp) (he:=λw=>Dm (m:=n2) (c0:=c2) (ad:=F b d) (j:=i) w U U aW H) (dk k)
     |10,_=>exact FE.bl (v:=iK b<|d+i*4+3) (E.dd<|q 9 U)<|dk k
     |11,_=>exact FE.p1 K (E.dd<|q 10 U) (s 3 aM).2 (dk k)
     |m+12,hm=>omega
    replace E:=(((E.dd<|hv 0 U).dd<|hv 1 U).dd<|hv 6 U).dd (hv 11 U);refine eP.one (j:=12) aW λis A=>?_;refine FE.cx E (G.o _ aM).2 ((adD V (G.o _ aM).1 h Y ⟨z,T.old λ_ _=>by rw[L]⟩ (Xa r) _ _ (s 2 aM).1 (s 3 aM).1).mono ?_);rintro e u ⟨rfl,C⟩;refine⟨_,U,λa _ E=>A a u ?_⟩;refine eP.one (j:=13) aW λis A=>FE.ow E λa _ E=>A a u (eP.none aW ?_);refine FX.sq<|FX.reg [0,1] ?_;refine FE.ow E λa _ E=>?_;refine FE.ow (v:=.bool aa) E λa _ E=>GO.nil ?_;refine FX.cF E<|FX.sk ⟨E.to,C.mono r⟩
   rintro a u ⟨E,C⟩;refine FX.reg [0,1,2] ?_;refine FE.ow E λa _ E=>?_;refine FE.ar E λa _ E=>?_;refine FE.ow E λa _ E=>GO.nil ?_;rw[show(i:Int)+1=((i+1:Nat):Int) by simp]at E;refine⟨⟨i+1,E.to,⟨J,Y⟩,C⟩,?_⟩;rw[X,tP (n:=n2)<|E.at_ 14 _ U];omega
  refine FE.ow (v:=.bool aa) E λa _ E=>?_;refine FE.ow E λa _ E=>GO.nil ?_;exact alc
 have W:¬(i:Int)<(n2:Int):=Y;refine FE.ow (v:=.bool aa) E λa _ E=>?_;refine FE.ow E λa _ E=>?_
 iterate 7 refine FE.gh E λa _ E=>?_
 refine FE.ow E λa _ E=>GO.nil ?_;exact alc
end
end
end Go.Proofs.YtpobhljcainmdaaGreat
