/- Parts of the proof. -/
import Derived.Laws.OwnMore
import Derived.Test.YtpobhljcainmdaaGreatJ12
set_option maxRecDepth 100000
set_option maxHeartbeats 8000000
set_option linter.all false
namespace Go.Proofs.YtpobhljcainmdaaGreat
open Go renaming heap_alloc_new->bW,World->an,below_drewN->ig,bodyPost_ret->fX,Value->au,wp_region_noPanic->gW
open Go.Calls renaming quiet_of_same->BH
open _root_.List renaming mem_of_find?_eq_some->UH,replicate->lZ
open Go.Fence renaming wide->jQ
open _root_.Nat renaming lt_trichotomy->US
open _root_.Int renaming toNat_natCast->Uu
open Go.Instr renaming makeSlice->BM
open Go.NoPanic renaming normal->gp
open Go.RowKit renaming intOf->gu
open Go.Value renaming ownBlock->uk,pointer->Ab
section
open Go.Conc Go.RowKit
open Go.Proofs.Tryz
abbrev Fx.at (f:Fx)(s:Nat)(k:Ck):Fx:={f with K:=f.K.set s (some k)}
abbrev rL:Rq:=⟨aQ.zero,0⟩
def Fx.along(f:Fx)(s:Nat)(k:Ck)(a:List Rq):Bool:=(f.at s k).free k&&(decide (cJ k.fst.m<=k.de)&&rA (a[0]?.getD rL) (a[a.length-1]?.getD rL) k.fst f.g.mx)
def Ck.next(k:Ck):Ck:=k.bF k.fst k.q.tail
def Fx.jH(f:Fx)(s:Nat):Nat->Ck->List Rq->Ck×List Rq
 |0,k,a=>(k,a)
 |n+1,k,a=>if f.along s k a then f.jH s n k.next (a++[k.fst])else(k,a)
def nh(b:Jb)(fl:List Jb):Nat:=(fl.takeWhile fun x=>dF x.key b.key).length
def iB{α:Type}(p:Nat)(x:α)(l:List α):List α:=l.take p++x::l.drop p
def fy(b:Jb)(fl:List Jb):List Jb:=iB (nh b fl) b fl
def Fx.fU(f:Fx)(s:Nat)(k:Ck):Fx:=
 let p:=f.jH s k.next.q.length k.next [k.fst]
 {f.at s p.1 with bL:=f.bL.tail,bF:=f.bF+1,fl:=fy ⟨s,p.2,f.eu,f.clock+f.eu.delay,f.bF⟩ f.fl}
structure Ck.Go(k:Ck):Prop where
 out:k.out.size<=4194304
 prom:0<=k.prom/\k.prom<=4194304
 q:∀r∈k.q,r.Ok
 tok:0<=k.tok/\k.tok<=65535
 de:0<=k.de/\k.de<=1048576
 sv:0<=k.sv/\k.sv+k.de<=281474976710656
 aZ:0<=k.aZ/\k.aZ+k.q.length<=1048576
theorem Ck.Go.fine{k:Ck}(h:k.Go):k.jD:=⟨h.out,h.prom,h.q⟩
theorem Ck.Go.dsp{k:Ck}(h:k.Go):k.Am:=⟨h.tok,h.de,⟨h.sv.1,by have:=h.sv;have:=h.de;omega⟩,⟨h.aZ.1,by have:=h.aZ;omega⟩,h.prom,h.q⟩
theorem Xf{r:Rq}(h:r.Ok):0<=cJ r.m:=by unfold cJ;have:=h.lR;split<;>omega
theorem size_pos{r:Rq}(h:r.Ok):0<=sizeOf' r.m:=by unfold sizeOf';have:=h.lR;split<;>omega
theorem yY{g}{k:Ck}(h:k.gl g=true):∃r l,k.q=r::l/\k.fst=r/\k.q.tail=l/\0<k.tok/\(k.out.size:Int)+k.prom+sizeOf' r.m<=g.ou:=by
 cases e:k.q with
 |nil=>simp[Ck.gl,e]at h
 |cons r l=>
  simp[Ck.gl,e]at h;exact⟨r,l,rfl,by simp[Ck.fst,e],aq,h.1,h.2⟩
theorem Ck.Go.next{k:Ck}{g:Cf}(h:k.Go)(w:g.ou<=65535)(hr:k.gl g=true)(j:cJ k.fst.m<=k.de):k.next.Go/\k.next.q.length+1=k.q.length:=by
 obtain⟨r,l,a,c,e,o,p⟩:=yY hr;have d:=h.q r (by rw[a];simp);have:=Xf d;have:=size_pos d;rw[c]at j;have i:k.next=k.bF r l:=by rw[Ck.next,c,e]
 rw[i];have s:=h.tok;have t:=h.de;have u:=h.sv;have b:=h.aZ;have v:=h.prom;rw[a]at b;simp at b;refine⟨⟨h.out,⟨by show 0<=k.prom+sizeOf' r.m;omega,by show k.prom+sizeOf' r.m<=4194304;omega⟩,fun x n=>h.q x (by rw[a];exact jS _ n),⟨by show 0<=k.tok-1;omega,by show k.tok-1<=65535;omega⟩,⟨by show 0<=k.de-cJ r.m;omega,by show k.de-cJ r.m<=1048576;omega⟩,⟨by show 0<=k.sv+cJ r.m;omega,by show k.sv+cJ r.m+(k.de-cJ r.m)<=281474976710656;omega⟩,by show 0<=k.aZ+1;omega,?_⟩,by rw[a];rfl⟩;show k.aZ+1+(l.length:Int)<=1048576
 push_cast at b
 omega
theorem DJ{f:Fx}{k:Ck}(h:f.free k=true):k.gl f.g=true:=by simp[Fx.free]at h;exact h.1
theorem Fx.VL{f:Fx}{s:Nat}{k:Ck}{a:List Rq}(h:f.along s k a=true):k.gl f.g=true/\cJ k.fst.m<=k.de:=by simp only[Fx.along,cm,uo]at h;exact⟨DJ (f:=f.at s k) h.1,h.2.1⟩
theorem Fx.jD.at {f:Fx}{s:Nat}{k:Ck}(h:f.jD)(a:k.jD):(f.at s k).jD:=by
 refine⟨fun x hx=>?_,h.jb,by show(f.K.set s (some k)).length<=_;rw[oz];exact h.dA,h.ku,h.nZ⟩;rcases Gk hx with hx|hx
 ·exact h.cl x hx
 ·cases hx;exact a
section
variable {W W':an} {f:Fx} {xb:Nat} {L:cQ}
theorem eH.js'{own bR T cs cs' fl js}(a:eH W W' own bR T)(h:As W own cs fl js)(hc:∀(s:Nat) lc,cs[s]? =some (some lc)->∃e,cs'[s]? =some (some e)/\e.c=lc.c)(j:∀b∈fl,¬T (8+2*b.order)):As W' bR cs' fl js:=
 ⟨h.len,fun i b l d g=>(h.at_ i b l d g).aside a (hc b.s) (j b (iG d))⟩
theorem ay.NC(h:ay W f xb L){s n:Nat}{k k':Ck}{l l':Lc}{bR:Nat->Nat}(o:L.cs[s]? =some (some l))(hc:l'.c=l.c)(a:eH W W' L.own bR fun t=>t=7+2*s\/t=8+2*n)(hf:∀b∈f.fl,b.order≠n)(hr:l'.At W' f.g k')(q:l'.gw fun b=>bR b=7+2*s):
  ay W' (f.at s k') xb {L with cs:=L.cs.set s (some l'),own:=bR}:=by
 have b1:=a.blk h.box h.dX ak;have d:=a.blk h.dA h.gT ak;have i:=a.row h.bL h.kg ak;have j:=a.row h.log h.lu ak;have m:=a.ey h.ey h.iw ak;refine⟨?_,b1.2,?_,d.2,a.Du h.cs (fun x r=>by omega) ⟨hr,q⟩,a.js' h.js (Ks o hc) (fun b p=>by have:=hf b p;omega),a.nS h.fl ak,i.1,i.2,j.1,j.2,m.1,m.2⟩
 ·have e:=b1.1;simpa[kr]using e
 ·have e:=d.1;show wu W' L.sb ((L.cs.set s (some l')).map fun l=>l.map Lc.c);rw[QC o hc];exact e
end
structure lJ(W:an)(f:Fx)(xb:Nat)(L:cQ)(s n j:Nat)(l:Lc)(k:Ck)(rv:au)(rs:List Rq):Prop where
 fx:ay W (f.at s k) xb L
 az:L.cs[s]? =some (some l)
 mE:dU W j l.c rv rs ⟨0,false,0⟩ 0 0
 tag:L.own j=8+2*n/\∀b,rv.ownBlock=some b->L.own b=8+2*n
structure aX(w:an)(L:cQ)(w':an)(a:cQ):Prop where
 own:∀b,b<w.heap.size->a.own b=L.own b
 bS:aG (fun b=>L.own b≠0) w w'
theorem aX.refl(w L):aX w L w L:=⟨fun _ _=>rfl,aG.refl _ _⟩
theorem aX.trans{a b c L M N}(h:aX a L b M)(k:aX b M c N):aX a L c N:=
 ⟨fun x d=>(k.own x (cV d h.bS.size)).trans (h.own x d),⟨k.bS.os.trans h.bS.os,cS h.bS.size k.bS.size,fun x d e=>(k.bS.block x (cV d h.bS.size) (by rw[h.own x d];exact e)).trans (h.bS.block x d e)⟩⟩
section
variable {w W:an} {f:Fx} {xb s n:Nat} {L:cQ} {k:Ck} {l:Lc}
theorem next_eq{r t}(a:k.fst=r)(b:k.q.tail=t):k.next=k.bF r t:=by rw[Ck.next,a,b]
theorem Bi{α:Type}{l:List α}{i:Nat}{x y:α}(h:l[i]? =some x):(l.set i y)[i]? =some y:=pU (ed.1 h).1
theorem R9(h:ay w f xb L)(O:f.K[s]? =some (some k))(p:L.cs[s]? =some (some l))(J:k.Go)(hr:k.gl f.g=true)(P:∀b∈f.fl,b.order≠n):
  Calls prog 207 #[jp l.c] w fun e x=>∃j rv y E,e=.returned (jp j)/\lJ x f xb y s n j E k.next rv [k.fst]/\aX w L x y/\E.c=l.c:=by
 obtain⟨T,z,B,d⟩:=h.az p;rw[O]at z;cases z;obtain⟨r,t,F,A,G,_⟩:=yY hr;have m:=B.dQ;refine(I3 _ _ _ _ _ _ _ _ r t w B F J.dsp).mono ?_;rintro e x ⟨j,rv,rfl,M,⟨o,I,R⟩,D,N,S⟩;rw[next_eq A G,A];have C:∀b,b<w.heap.size->(b=l.c\/some b=l.q.ownBlock)->L.own b=7+2*s:=fun b _ a=>a.elim (fun e=>by rw[e];exact d.1) fun e=>d.2.2.2.2.1 b e.symm;have i:∀b,b<w.heap.size->fP L.own w.heap.size (8+2*n) b=L.own b:=fun b a=>jj a
 have H:Lc.gw ⟨l.c,l.rb,l.mb,l.ch,o,l.v⟩ fun b=>fP L.own w.heap.size (8+2*n) b=7+2*s:=
  ⟨(i _ m.1).trans d.1,(i _ m.2.1).trans d.2.1,(i _ m.2.2.1).trans d.2.2.1,(i _ m.2.2.2.1).trans d.2.2.2.1,fun b a=>by rw[show(Lc.mk l.c l.rb l.mb l.ch o l.v).q=o from rfl,R]at a;exact(i _ (m.2.2.2.2.1 b a)).trans (d.2.2.2.2.1 b a),fun b a=>(i _ (m.2.2.2.2.2 b a)).trans (d.2.2.2.2.2 b a)⟩
 refine⟨j,rv,{L with cs:=L.cs.set s (some ⟨l.c,l.rb,l.mb,l.ch,o,l.v⟩),own:=fP L.own w.heap.size (8+2*n)},⟨l.c,l.rb,l.mb,l.ch,o,l.v⟩,rfl,⟨h.NC (k:=k) p rfl ⟨fun b a Q=>D.block b a fun u=>Q (.inl (C b a u)),i⟩ P I H,Bi p,M,vk N,fun b a=>vk (S b a)⟩,⟨i,D.mono fun b a u=>by rw[C b a u];omega⟩,rfl⟩
theorem at_at(f:Fx)(s:Nat)(k k':Ck):(f.at s k).at s k'=f.at s k':=by simp[Fx.at]
theorem R6{j:Nat}{rv:au}{o:List Rq}(h:lJ W f xb L s n j l k rv o)(S:s<f.K.length)(J:k.Go)(hr:k.gl f.g=true)(O:∀b∈f.fl,b.order≠n)(hm:o.length<=1048576):
  Calls prog 209 #[jp j] W fun e u=>e=.returned (.tuple #[])/\∃rM x l',lJ u f xb x s n j l' k.next rM (o++[k.fst])/\aX W L u x/\l'.c=l.c:=by
 obtain⟨T,C,z,d⟩:=h.fx.az h.az;have D:(f.K.set s (some k))[s]? =some (some k):=pU S;have E:some (some T)=some (some k):=C.symm.trans D;cases E;obtain⟨r,t,F,y,G,_⟩:=yY hr;have i:=z.dQ;have N:j<W.heap.size:=(aP.1 h.mE.box).1;refine(VJ _ _ _ _ _ _ _ _ _ _ o r t _ _ _ W h.mE z F J.dsp hm fun b hb e=>?_).mono ?_
 ·have U:=h.tag.2 b hb;have V:=d.2.2.2.2.1 b e.symm;omega
 rintro e u ⟨rfl,⟨rM,M,R⟩,⟨m,I,Q⟩,B⟩;rw[next_eq y G,y];refine⟨rfl,rM,{L with cs:=L.cs.set s (some ⟨l.c,l.rb,l.mb,l.ch,m,l.v⟩),own:=fP L.own W.heap.size (8+2*n)},⟨l.c,l.rb,l.mb,l.ch,m,l.v⟩,?_,?_,rfl⟩
 all_goals
  have A:∀b,b<W.heap.size->(b=l.c\/b=j\/some b=l.q.ownBlock\/some b=rv.ownBlock)->L.own b=7+2*s\/L.own b=8+2*n:=fun b _ hb=>by
   rcases hb with rfl|rfl|hb|hb
   ·exact .inl d.1
   ·exact .inr h.tag.1
   ·exact .inl (d.2.2.2.2.1 b hb.symm)
   ·exact .inr (h.tag.2 b hb.symm)
  have a:∀b,b<W.heap.size->fP L.own W.heap.size (8+2*n) b=L.own b:=fun b hb=>jj hb
 ·have H:Lc.gw ⟨l.c,l.rb,l.mb,l.ch,m,l.v⟩ fun b=>fP L.own W.heap.size (8+2*n) b=7+2*s:=
   ⟨(a _ i.1).trans d.1,(a _ i.2.1).trans d.2.1,(a _ i.2.2.1).trans d.2.2.1,(a _ i.2.2.2.1).trans d.2.2.2.1,fun b hb=>by rw[show(Lc.mk l.c l.rb l.mb l.ch m l.v).q=m from rfl,Q]at hb;exact(a _ (i.2.2.2.2.1 b hb)).trans (d.2.2.2.2.1 b hb),fun b hb=>(a _ (i.2.2.2.2.2 b hb)).trans (d.2.2.2.2.2 b hb)⟩
  have hF:=h.fx.NC (k:=k) (n:=n) (l':=⟨l.c,l.rb,l.mb,l.ch,m,l.v⟩) (k':=k.bF r t) (bR:=fP L.own W.heap.size (8+2*n)) h.az rfl ⟨fun b hb P=>B.block b hb fun p=>P (A b hb p),a⟩ O I H;rw[at_at]at hF;refine⟨hF,Bi h.az,M,(a _ N).trans h.tag.1,fun b hb=>?_⟩;rcases R with hv|hv
  ·rw[hv]at hb;exact(a _ ((rK h.mE.row) b hb)).trans (h.tag.2 b hb)
  ·exact vk (hv b hb)
 ·exact⟨a,B.mono fun b hb p=>by rcases A b hb p with e|e<;>rw[e]<;>omega⟩
theorem lJ.below{W' j rv rs}(h:lJ W f xb L s n j l k rv rs)(a:aB W W'):lJ W' f xb L s n j l k rv rs:=
 ⟨h.fx.below a,h.az,h.mE.below a,h.tag⟩
theorem R8{j rv a}(h:lJ W f xb L s n j l k rv a)(A:s<f.K.length)(hf:f.jD)(o:k.Go)(h0:0<a.length)(hm:a.length<=1048576)(q:∀r∈a,r.Ok):
  bz 208 #[jp xb,jp l.c,jp j] W (.bool (f.along s k a)):=by
 obtain⟨B,i,y,C⟩:=h.fx.az h.az;have v:(f.K.set s (some k))[s]? =some (some k):=pU A;have x:some (some B)=some (some k):=i.symm.trans v;cases x;have t:a[0]? =some a[0]:=dN h0;have u:a[a.length-1]? =some a[a.length-1]:=dN ak;have e:f.along s k a=((f.at s k).free k&&(decide (cJ k.fst.m<=k.de)&&rA a[0] a[a.length-1] k.fst f.g.mx)):=by rw[Fx.along,t,u];rfl
 rw[e];refine Zq xb l.c j k.fst _ _ _ f.g.mx W (av h.fx.box rfl) (h.fx.firstFree (hf.at (s:=s) o.fine) i h.az) (fun b d=>NA l.c k.fst k.de b (bp d (av y.p.box rfl))) fun z _ b d=>?_;exact Ys j l.c rv a _ _ k.fst _ _ _ _ b (h.mE.below d) t u (Bd o.fine (DJ z)) (q _ (UF _)) (q _ (UF _)) hm
end
theorem Rs(b fl):nh b fl<=fl.length:=(List.takeWhile_sublist _).length_le
theorem JV{α:Type}{p}{x:α}{l:List α}(a:p<=l.length):(iB p x l).length=l.length+1:=by simp[iB];omega
theorem JW{α:Type}{p i}{x:α}{l:List α}(a:p<=l.length)(h:i<p):(iB p x l)[i]? =l[i]? :=by rw[iB,xN bK,lX,aM h]
theorem JR{α:Type}{p}{x:α}{l:List α}(a:p<=l.length):(iB p x l)[p]? =some x:=by rw[iB,qN bK];simp[oI a]
theorem JS{α:Type}{p i}{x:α}{l:List α}(a:p<=l.length)(h:p<=i):(iB p x l)[i+1]? =l[i]? :=by
 rw[iB,qN bK];simp only[qP,oI a];rw[show i+1-p=(i-p)+1 by omega,List.getElem?_cons_succ,Gg]
 congr 1;omega
theorem V2{α:Type}{p i}{x y:α}{l:List α}(a:p<=l.length)(h:l[i]? =some y):(iB p x l)[if i<p then i else i+1]? =some y:=by
 by_cases e:i<p
 ·rw[aM e,JW a e];exact h
 ·rw[aD e,JS a ak];exact h
theorem JU{α g:Type}{p i:Nat}{x y:α}{u v:g}{l:List α}{m:List g}(d:p<=l.length)(hm:m.length=l.length)(a:(iB p x l)[i]? =some y)(c:(iB p u m)[i]? =some v):(y=x/\v=u)\/∃j:Nat,l[j]? =some y/\m[j]? =some v:=by
 rcases US i p with e|e|e
 ·rw[JW d e]at a;rw[JW ak e]at c;exact .inr ⟨i,a,c⟩
 ·subst e;rw[JR d]at a;rw[JR ak]at c;cases a;cases c;exact .inl ⟨rfl,rfl⟩
 ·obtain⟨i,rfl⟩:∃j,i=j+1:=⟨i-1,ak⟩;rw[JS d ak]at a;rw[JS ak ak]at c;exact .inr ⟨i,a,c⟩
section
variable {W:an} {f:Fx} {xb:Nat} {L:cQ} {b:Jb} {lj:Lj}
theorem YZ(h:ay W f xb L)(hj:eC W L.own L.cs b lj)(hn:∀x∈f.fl,x.order≠b.order)(hm:f.fl.length<1048576):
  Calls prog 212 #[.pointer (some (aa xb 18)),jp lj.j] W fun e D=>e=.returned (.tuple #[])/\∃Q,ay D {f with fl:=fy b f.fl} xb Q/\aX W L D Q:=by
 obtain⟨lc,aF,Z,H⟩:=hj
 have old:∀(i:Nat) l,L.js[i]? =some l->∃x,f.fl[i]? =some x/\(∃lc,dU W l.j lc l.rv x.rs x.ft x.due x.order)/\L.own l.j=8+2*x.order/\l.j≠lj.j/\L.key l.j=x.key:=fun i l o=>by
  have hi:i<f.fl.length:=by rw[<-h.js.len];exact(ed.1 o).1
  have d:f.fl[i]? =some f.fl[i]:=dN hi;obtain⟨c,g,k,n⟩:=h.js.at_ i _ _ d o;refine⟨_,d,⟨_,k⟩,n.1,fun e=>?_,h.fl.keys i _ _ d o⟩;have K:=n.1;rw[e,H.1]at K;exact hn _ (iG d) ak
 have C:∀x,x<f.fl.length->∃(i:Nat) (l:Lj),L.js[i]? =some l/\L.hf x=l.j:=h.fl.aO
 let w:Nat->Key:=fun x=>if x=lj.j then b.key else L.key x
 have P:∀x,x<f.fl.length->w (L.hf x)=L.key (L.hf x):=fun x d=>by obtain⟨i,l,g,k⟩:=C x d;obtain⟨_,_,_,_,n,_⟩:=old i l g;show(if _ then _ else _)=_;rw[aD (by rw[k];exact n)]
 have aq:w lj.j=b.key:=aM rfl
 have ah:∀x,x<f.fl.length->L.hf x≠lj.j:=fun x d=>by obtain⟨i,l,g,k⟩:=C x d;obtain⟨_,_,_,_,n,_⟩:=old i l g;rw[k];exact n
 refine(V0 xb 18 f.fl.length lj.j L.hv L.hf w _ _ W h.box rfl cq h.fl.row hm (fun x d=>?_) (fun x d e=>?_) ?_ (fun e=>?_) (fun e=>?_) ?_).mono ?_
 ·obtain⟨i,l,g,k⟩:=C x d;obtain⟨y,n,⟨c,K⟩,G,X,h7⟩:=old i l g;rw[P x d,k,h7];refine⟨K.key,fun e=>?_⟩;have:=h.fl.own l.j e.symm;omega
 ·obtain⟨i,l,g,k⟩:=C x d;obtain⟨y,n,_,G,_⟩:=old i l g;rw[<-k,e,h.dX]at G;omega
 ·rw[aq];exact Z.key
 ·have:=h.fl.own lj.j e.symm;have:=H.1;omega
 ·have:=H.1;rw[e,h.dX]at this;omega
 ·intro x h0 d;have:=h.fl.heap x h0 d;simp only[P x d,P (par x) (by unfold par;omega)];exact this
 rintro e D ⟨rfl,v',A,g1,g2,F,g4,V,g6⟩;have O:=Rs b f.fl;have Y:∀x,x<W.heap.size->(x=xb\/some x=L.hv.ownBlock)->L.own x=1\/L.own x=3:=fun x _ d=>d.elim (fun e=>.inl (by rw[e];exact h.dX)) fun e=>.inr (h.fl.own x e.symm);have a:eH W D L.own (fP L.own W.heap.size 3) fun t=>t=1\/t=3:=⟨fun x d yM=>V.block x d fun N=>yM (Y x d N),fun x d=>jj d⟩;have R:=a.blk h.dA h.gT ak;have S:=a.row h.bL h.kg ak;have T:=a.row h.log h.lu ak;have U:=a.ey h.ey h.iw ak;have p:(fy b f.fl).length=f.fl.length+1:=JV O;have af:L.js.length=f.fl.length:=h.js.len;have I:nh b f.fl<=L.js.length:=ak;have aL:xb<W.heap.size:=(aP.1 h.box).1;refine⟨rfl,{L with js:=iB (nh b f.fl) lj L.js,hv:=v',hf:=A,key:=w,own:=fP L.own W.heap.size 3},⟨g1,(jj aL).trans h.dX,R.1,R.2,a.cs h.cs (fun s=>by omega),⟨?_,?_⟩,⟨?_,?_,?_,?_,?_,?_,?_⟩,S.1,S.2,T.1,T.2,U.1,U.2⟩,⟨fun x d=>jj d,V.mono fun x d N=>by rcases Y x d N with e|e<;>rw[e]<;>omega⟩⟩
 ·show(iB _ _ _).length=(fy b f.fl).length;rw[JV I,p];omega
 ·intro i x l d o;rcases JU O af d o with⟨rfl,rfl⟩|⟨B,g,k⟩
  ·exact eC.aside a ⟨lc,aF,Z,H⟩ (fun c M=>⟨c,M,rfl⟩) ak
  ·exact eC.aside a (h.js.at_ B x l g k) (fun c M=>⟨c,M,rfl⟩) ak
 ·show D.ownsRow 0 _ 1 v' (fy b f.fl).length (iQ (fy b f.fl).length A);rw[p];exact g2
 ·intro x d;show fP _ _ _ _=3;rcases g6 with e|e
  ·have r:L.hv.ownBlock=some x:=by rw[<-e];exact d
   rw[jj (rK h.fl.row x r)];exact h.fl.own x r
  ·exact vk (e x d)
 ·intro x d;have r:x<f.fl.length+1:=by rw[<-p];exact d
  obtain⟨y,J,e⟩:=F.aO x r;show ∃(i:Nat) (l:Lj),(iB (nh b f.fl) lj L.js)[i]? =some l/\A x=l.j
  by_cases aj:y=f.fl.length
  ·exact⟨_,lj,JR I,by rw[e];simp[more,aj]⟩
  ·obtain⟨i,l,g,k⟩:=C y ak;exact⟨_,l,V2 I g,by rw[e];simp[more,aj,k]⟩
 ·intro i l o;show ∃x,x<(fy b f.fl).length/\A x=l.j;rw[p];rcases JU (l:=L.js) (m:=L.js) I rfl o o with⟨rfl,_⟩|⟨B,g,_⟩
  ·obtain⟨x,d,e⟩:=F.all f.fl.length ak;exact⟨x,d,by rw[e];simp[more]⟩
  ·obtain⟨y,J,z⟩:=h.fl.all B l g;obtain⟨x,d,e⟩:=F.all y ak;exact⟨x,d,by rw[e];simp[more,Nat.ne_of_lt J,z]⟩
 ·intro x y d J e;have r:x<f.fl.length+1:=by rw[<-p];exact d
  have aQ:y<f.fl.length+1:=by rw[<-p];exact J
  refine F.one (fun u v hu hv q=>?_) x y r aQ e
  by_cases z:u=f.fl.length
  ·by_cases E:v=f.fl.length
   ·omega
   ·simp[more,z,E]at q;exact absurd q.symm (ah v ak)
  ·by_cases E:v=f.fl.length
   ·simp[more,z,E]at q;exact absurd q (ah u ak)
   ·simp[more,z,E]at q;exact h.fl.one u v ak ak q
 ·intro i x l d o;show w l.j=x.key;rcases JU O af d o with⟨rfl,rfl⟩|⟨B,g,k⟩
  ·exact aq
  ·obtain⟨y,n,_,_,G,X⟩:=old B l k;rw[g]at n;cases n;show(if _ then _ else _)=_;rw[aD G];exact X
 ·show Hp (fy b f.fl).length fun x=>w (A x);rw[p];exact g4
end
end
section
attribute [local go_sem ↓] Go.wp_at_zero Go.wp_at_succ
attribute [local go_sem] bq bg
open Go.Conc Go.RowKit
open Go.Proofs.Tryz
def qA:Option au->Nat
 |some (.slice _ n _)=>n
 |_=>0
theorem Zj{f:Fx}{s n:Nat}{k:Ck}{rs:List Rq}(h:f.along s k rs=false):f.jH s n k rs=(k,rs):=by cases n<;>simp[Fx.jH,h]
theorem Zi{f:Fx}{s n:Nat}{k:Ck}{rs:List Rq}(h:f.along s k rs=true)(a:n+1=k.q.length):f.jH s k.q.length k rs=f.jH s n k.next (rs++[k.fst]):=by rw[<-a,Fx.jH,aM h]
section
variable {w W W':an} {f:Fx} {xb s n j:Nat} {L:cQ} {k:Ck} {l:Lc} {rv:au} {rs:List Rq}
theorem lJ.len(h:lJ W f xb L s n j l k rv rs)(o:s<f.K.length):qA (W.cell? (aa l.c 13))=k.q.length:=by obtain⟨r,d,b,u⟩:=h.fx.az h.az;have g:(f.K.set s (some k))[s]? =some (some k):=pU o;have m:some (some r)=some (some k):=d.symm.trans g;cases m;obtain⟨a,t,e,_⟩:=b.p.row.form;have:=av b.p.box (i:=13) (v:=l.q) rfl;rw[this,e];rfl
structure we(w:an)(L:cQ)(f:Fx)(xb s n j c:Nat)(G:Ck×List Rq)(W:an)(b:cQ)(d:Lc)(a:Ck)(rv:au)(rs:List Rq):Prop where
 p:lJ W f xb b s n j d a rv rs
 fV:aX w L W b
 c:d.c=c
 go:a.Go
 gat:f.jH s a.q.length a rs=G
 pos:0<rs.length
 len:rs.length+a.q.length<=1048576
 ok:∀r∈rs,r.Ok
theorem we.below{c G L1 l1 k1}(h:we w L f xb s n j c G W L1 l1 k1 rv rs)(a:aB W W'):we w L f xb s n j c G W' L1 l1 k1 rv rs:=
 ⟨h.p.below a,⟨h.fV.own,h.fV.bS.trans (.below a)⟩,h.c,h.go,h.gat,h.pos,h.len,h.ok⟩
theorem ay.R5(h:ay W f xb L){bR}(a:eH W W' L.own bR fun t=>t=8+2*n)(hf:∀b∈f.fl,b.order≠n):ay W' f xb {L with own:=bR}:=by have b1:=a.blk h.box h.dX ak;have c:=a.blk h.dA h.gT ak;have d:=a.row h.bL h.kg ak;have e:=a.row h.log h.lu ak;have g:=a.ey h.ey h.iw ak;exact⟨b1.1,b1.2,c.1,c.2,a.cs h.cs (fun _=>by omega),a.js' h.js nj (fun b i=>by have:=hf b i;omega),a.nS h.fl ak,d.1,d.2,e.1,e.2,g.1,g.2⟩
theorem R7(h:lJ W f xb L s n j l k rv rs)(hm:f.bL.length<=1048576):
  Calls prog 211 #[jp xb] W fun e d=>e=.returned (.agg (dI f.eu))/\∃m,lJ d {f with bL:=f.bL.tail} xb m s n j l k rv rs/\aX W L d m:=by
 cases e:f.bL with
 |nil=>
  refine(I9 xb (f.at s k) L W h.fx e).mono ?_;rintro p d ⟨rfl,a⟩;refine⟨rfl,L,?_,⟨fun _ _=>rfl,.below a⟩⟩;have:({f with bL:=([]:List Ft).tail}:Fx)=f:=by cases f;cases e;rfl
  rw[this];exact h.below a
 |cons t r=>
  refine(J1 xb (f.at s k) L t r W h.fx e (by rw[e]at hm;simp at hm;omega)).mono ?_;rintro p d ⟨rfl,v,q,x,g⟩;have u:j<W.heap.size:=(aP.1 h.mE.box).1;have o:=rK h.mE.row;have i:∀b,(b=xb\/some b=L.fv.ownBlock)->L.own b=1\/L.own b=4:=fun b a=>a.elim (fun e=>.inl (by rw[e];exact h.fx.dX)) fun e=>.inr (h.fx.kg b e.symm);refine⟨rfl,_,⟨q,h.az,⟨tM g h.mE.box fun c=>?_,gm h.mE.row fun b a=>g.block b (o b a) fun c=>?_⟩,(jj u).trans h.tag.1,fun b a=>(jj (o b a)).trans (h.tag.2 b a)⟩,⟨fun b a=>jj a,g.mono fun b _ c=>by rcases i b c with e|e<;>rw[e]<;>omega⟩⟩
  ·have:=i _ c;have:=h.tag.1;omega
  ·have:=i _ c;have:=h.tag.2 b a;omega
theorem S3(h:lJ W f xb L s n j l k rv rs)(t:Ft)(now)(q:∀b∈f.fl,b.order≠n)(h0:0<=now)(g:now<=281474976710656)(i:0<=t.delay)(m:t.delay<=65535):
  Calls prog 210 #[jp j,aj now,aj n,.agg (dI t)] W fun e a=>e=.returned (.tuple #[])/\ay a (f.at s k) xb L/\eC a L.own L.cs ⟨s,rs,t,now+t.delay,n⟩ ⟨j,rv⟩/\aX W L a L:=by
 refine(ady j l.c rv rs _ t 0 0 now n W h.mE h0 g i m).mono ?_;rintro e a ⟨rfl,p,d⟩;exact⟨rfl,h.fx.R5 (n:=n) ⟨fun b o r=>d.block b o fun e=>r (by rw[e];exact h.tag.1),fun b _=>rfl⟩ q,⟨l,h.az,p,h.tag⟩,⟨fun _ _=>rfl,d.mono fun b _ e=>by rw[e,h.tag.1];omega⟩⟩
end
structure Fx.May(f:Fx):Prop where
 fine:f.jD
 ou:f.g.ou<=65535
 fresh:∀b∈f.fl,b.order<f.bF
 clock:0<=f.clock/\f.clock<=281474976710656
 bF:f.bF<=281474976710656
 bL:f.bL.length<=1048576
 eu:0<=f.eu.delay/\f.eu.delay<=65535
 ku:f.fl.length<1048576
abbrev ClS(xb:Nat)(c d:Int)(W:an):Prop:=W.cell? (aa xb 13)=some (aj c)/\W.cell? (aa xb 12)=some (aj d)
theorem ay.clS{W f xb L}(h:ay W f xb L):ClS xb f.clock f.bF W:=⟨av h.box rfl,av h.box rfl⟩
theorem Xz{W f xb L}(h:ay W f xb L):ay (W.setCell (aa xb 12) (aj ((f.bF:Int)+1))) {f with bF:=f.bF+1} xb L:=
 h.put 12 _ {f with bF:=f.bF+1} (by simp[kr]) rfl rfl rfl rfl rfl ⟨rfl,rfl,rfl⟩
theorem eC.put{W f xb i L b lj u}(h:ay W f xb L)(d:eC W L.own L.cs b lj):eC (W.setCell (aa xb i) u) L.own L.cs b lj:=
 d.aside (T:=fun t=>t=1) ⟨fun b _ g=>bH fun e=>g (by rw[e];exact h.dX),fun _ _=>rfl⟩ (fun c a=>⟨c,a,rfl⟩) ak
theorem YS(w f xb s L k)(l:Lc)(h:ay w f xb L)(hk:f.K[s]? =some (some k))(hl:L.cs[s]? =some (some l))(hm:f.May)(Q:k.Go)(hr:k.gl f.g=true)(hp:cJ k.fst.m<=k.de)(hq:k.q.length<=1048576):
  Calls prog 169 #[jp xb,jp l.c] w fun e a=>e=.returned (.tuple #[])/\∃t,ay a (f.fU s k) xb t/\aX w L a t:=by
 have hs:=(ed.1 hk).1;have hn:∀b∈f.fl,b.order≠f.bF:=fun b hb=>Nat.ne_of_lt (hm.fresh b hb);have z:=Q.next hm.ou hr hp
 have HJ:Hid (Calls prog 207 #[jp l.c] w fun e a=>∃j,e=.returned (jp j)/\∃y u i rv n,we w L f xb s f.bF j l.c (f.jH s k.next.q.length k.next [k.fst]) a y u i rv n):=by
  refine(R9 h hk hl Q hr hn).mono ?_;rintro e a ⟨j,rv,t,R,rfl,v,x,o⟩;refine⟨j,rfl,t,R,k.next,rv,[k.fst],v,x,o,z.1,rfl,aq,by have:=z.2;simp;omega,fun r aC=>?_⟩
  ·simp at aC;rw[aC];exact Bd Q.fine hr
 have HM:Hid (f.May/\s<f.K.length/\∀b∈f.fl,b.order≠f.bF):=⟨hm,hs,hn⟩;have HG:Hid (f.fU s k={f.at s (f.jH s k.next.q.length k.next [k.fst]).1 with bL:=f.bL.tail,bF:=f.bF+1,fl:=fy ⟨s,(f.jH s k.next.q.length k.next [k.fst]).2,f.eu,f.clock+f.eu.delay,f.bF⟩ f.fl}):=rfl;generalize f.jH s k.next.q.length k.next [k.fst]=G at*
 generalize f.fU s k=F' at*;generalize l.c=c at*;go_enter func169,ntmps169;go_wp2_with (go_at_call 207;refine HJ.out.mono ?_;rintro e w1 ⟨j,rfl,hD⟩;have HD:=aL hD)
 go_loopw [] (fun wr=>Hid (∃y u i rv n,we w L f xb s f.bF j c G wr y u i rv n)) (fun W=>qA (W.cell? (aa c 13)))
 case atStart=>exact HD
 case round=>
  have hR:=hrel;clear hrel;obtain⟨y,u,i,rv,n,D⟩:=hR.out;have A:=aL D
  have C:Hid (bz 208 #[jp xb,jp c,jp j] wr (.bool (f.along s i n))):=by rw[<-D.c];exact R8 D.p HM.out.2.1 HM.out.1.fine D.go D.pos (by have:=D.len;omega) D.ok
  clear D hR;cases H:f.along s i n with
  |false=>
   rw[H]at C;have hG:G=(i,n):=by rw[<-A.out.gat,Zj H]
   have X:Hid (∀W,aB wr W->Calls prog 211 #[jp xb] W fun e a=>e=.returned (.agg (dI f.eu))/\∃d,lJ a {f with bL:=f.bL.tail} xb d s f.bF j u i rv n/\aX w L a d):=fun W P=>by have D:=A.out.below P;refine(R7 D.p HM.out.1.bL).mono ?_;rintro e a ⟨rfl,d,v,x⟩;exact⟨rfl,d,v,D.fV.trans x⟩
   have Y:Hid (∀W d,lJ W {f with bL:=f.bL.tail} xb d s f.bF j u i rv n->aX w L W d->Calls prog 210 #[jp j,aj f.clock,aj f.bF,.agg (dI f.eu)] W fun e a=>e=.returned (.tuple #[])/\ay a (({f with bL:=f.bL.tail}:Fx).at s i) xb d/\eC a d.own d.cs ⟨s,n,f.eu,f.clock+f.eu.delay,f.bF⟩ ⟨j,rv⟩/\aX w L a d):=fun W d hP hT=>by refine(S3 hP f.eu f.clock HM.out.2.2 HM.out.1.clock.1 HM.out.1.clock.2 HM.out.1.eu.1 HM.out.1.eu.2).mono ?_;rintro e a ⟨rfl,v,x,o⟩;exact⟨rfl,v,x,hT.trans o⟩
   have V:=aL A.out.p.fx.clS;have HE:=aL hG;clear hG
   go_upto_region 3 with(go_at_call 208;refine C.out.mono ?_;rintro e w2 ⟨rfl,I⟩)
   have s0:ClS xb f.clock f.bF w2:=⟨bp I V.out.1,bp I V.out.2⟩;refine dR (S:=ClS xb f.clock f.bF) s0 fun bC=>?_;refine tk 0 ?_;refine tk 1 ?_;refine tk 2 ?_;refine tk 3 ?_;refine tk 4 ?_;refine tk 5 ?_;refine tk 6 ?_;refine tk 7 ?_;refine tk 8 ?_;refine tk 9 ?_;refine rH 10 fun K F=>?_;go_simp;go_at_call 211;refine(X.out _ (I.trans (ig (Below.refl _ _) _))).mono ?_;rintro e B ⟨rfl,d,o,E⟩;have ZB:ClS xb f.clock f.bF B:=o.fx.clS;have M:Hid (lJ B {f with bL:=f.bL.tail} xb d s f.bF j u i rv n/\aX w L B d):=⟨o,E⟩;clear o E;refine F.out _ _ ZB (fun bA=>?_);clear F K;refine rH 11 fun K F=>?_;go_simp;go_at_call 210;refine(Y.out _ d M.out.1 M.out.2).mono ?_;rintro e J ⟨rfl,O,h6,h7⟩;have Pu:ClS xb f.clock f.bF J:=O.clS;have N:Hid (ay J (({f with bL:=f.bL.tail}:Fx).at s i) xb d/\eC J d.own d.cs ⟨s,n,f.eu,f.clock+f.eu.delay,f.bF⟩ ⟨j,rv⟩/\aX w L J d):=⟨O,h6,h7⟩;clear O h6 h7;refine F.out _ _ Pu (fun bB=>?_);clear F K;refine cK ?_;have bI:=Pu.2;have xf:=aS N.out.1.box 12;have hd:(f.bF:Int)<=281474976710656:=by have:=HM.out.1.bF;omega
   have HU:Hid (Calls prog 212 #[.pointer (some (aa xb 18)),jp j] (J.setCell (aa xb 12) (aj ((f.bF:Int)+1))) fun e a=>e=.returned (.tuple #[])/\∃t,ay a F' xb t/\aX w L a t):=by obtain⟨T,q2,q3⟩:=N.out;refine(YZ (Xz T) (eC.put T q2) HM.out.2.2 HM.out.1.ku).mono ?_;rintro e a ⟨rfl,t,v,x⟩;refine⟨rfl,t,?_,(q3.trans ⟨fun _ _=>rfl,(aG.refl _ _).set (by show d.own xb≠0;rw[T.dX];omega) _⟩).trans x⟩;rw[HG.out,HE.out];exact v
   clear N X Y A C M;go_wp2_with (go_at_call 212;refine HU.out.mono ?_;rintro e w5 ⟨rfl,h8⟩);exact dZ rfl rfl ⟨rfl,h8⟩
  |true=>
   rw[H]at C
   have HT:Hid (∀W,aB wr W->Calls prog 209 #[jp j] W fun e a=>e=.returned (.tuple #[])/\(∃y u i rv n,we w L f xb s f.bF j c G a y u i rv n)/\qA (a.cell? (aa c 13))<qA (wr.cell? (aa c 13))):=fun W P=>by
    have D:=A.out.below P;obtain⟨a1,a2⟩:=Fx.VL H;refine(R6 D.p HM.out.2.1 D.go a1 HM.out.2.2 (by have:=D.len;omega)).mono ?_;rintro e a ⟨rfl,rM,t,R,v,x,o⟩;have z:=D.go.next HM.out.1.ou a1 a2
    refine⟨rfl,⟨t,R,i.next,rM,n++[i.fst],v,D.fV.trans x,o.trans D.c,z.1,?_,aq,by have:=D.len;have:=z.2;simp;omega,fun r hr=>?_⟩,?_⟩
    ·rw[<-D.gat,Zi H z.2]
    ·rcases kU.1 hr with hr|hr
     ·exact D.ok r hr
     ·simp at hr;rw[hr];exact Bd D.go.fine a1
    ·have Z:=v.len HM.out.2.1;have e2:=A.out.p.len HM.out.2.1;rw[o,D.c]at Z;rw[D.c]at e2;rw[Z,e2];have:=z.2;omega
   go_wp2_with (first
    |(go_at_call 208;refine C.out.mono ?_;rintro e w2 ⟨rfl,I⟩)
    |(go_at_call 209;refine(HT.out _ I).mono ?_;rintro e B ⟨rfl,o,E⟩;have U:Hid ((∃y u i rv n,we w L f xb s f.bF j c G B y u i rv n)/\qA (B.cell? (aa c 13))<qA (wr.cell? (aa c 13))):=⟨o,E⟩;clear o E))
   exact⟨U.out.1,U.out.2⟩
def Fx.aU(f:Fx)(k:Ck):Ck:=if f.opn then k else k.open f.g
def Fx.turned(f:Fx)(k:Ck):Fx:={f.at f.az (f.aU k)with opn:=true}
def Fx.bC(f:Fx):Fx×Bool:=match f.K[f.az]? with
 |some (some k)=>
  if(f.turned k).free (f.aU k)then(if cJ (f.aU k).fst.m<=(f.aU k).de then((f.turned k).fU f.az (f.aU k),true)else(f.turned k,false))
  else((f.turned k).at f.az (f.aU k).lose,false)
 |_=>(f,false)
section
variable {w W W':an} {f:Fx} {xb s c:Nat} {L:cQ} {k:Ck}
def bZ(w:an)(L:cQ)(f:Fx)(xb s c:Nat)(W:an):Prop:=∃a b,ay W f xb a/\a.cs[s]? =some (some b)/\b.c=c/\aX w L W a
theorem bZ.below(h:bZ w L f xb s c W)(b:aB W W'):bZ w L f xb s c W':=by obtain⟨d,j,e,g,i,a⟩:=h;exact⟨d,j,e.below b,g,i,⟨a.own,a.bS.trans (.below b)⟩⟩
theorem bZ.put(h:bZ w L f xb s c W):bZ w L {f with opn:=true} xb s c (W.setCell (aa xb 16) (.bool true))/\W.cell? (aa xb 16)=some (.bool f.opn)/\W.frozen? (aa xb 16)=false:=by obtain⟨b,i,a,d,e,g⟩:=h;refine⟨⟨b,i,a.put 16 _ {f with opn:=true} (by simp[kr]) rfl rfl rfl rfl rfl ⟨rfl,rfl,rfl⟩,d,e,g.trans ⟨fun _ _=>rfl,(aG.refl _ _).set (by show b.own xb≠0;rw[a.dX];omega) _⟩⟩,av a.box rfl,aS a.box 16⟩
theorem bZ.client(h:bZ w L f xb s c W)(r:f.K[s]? =some (some k))(n k' v)(hc:∀a:Lc,a.c=c->a.At W f.g k->Calls prog n #[jp c] W fun e d=>e=.returned v/\a.At d f.g k'/\aG (fun i=>i=c) W d):
  Calls prog n #[jp c] W fun e d=>e=.returned v/\bZ w L (f.at s k') xb s c d:=by
 obtain⟨t,a,q,l,j,x⟩:=h;obtain⟨z,o,y,m⟩:=q.az l;rw[r]at o;cases o;refine(hc a j y).mono ?_;rintro e d ⟨rfl,u,p⟩;exact⟨rfl,_,a,q.client (bR:=t.own) l rfl r p (fun b _ e=>by rw[e,<-j];exact m.1) u (fun _ _=>rfl) m,Bi l,j,x.trans ⟨fun _ _=>rfl,p.mono fun b _ e=>by rw[e,<-j,m.1];omega⟩⟩
theorem bZ.open(h:bZ w L f xb s c W)(d:f.K[s]? =some (some k))(i:0<=f.g.qn/\f.g.qn<=65535)(j:0<=k.wt/\k.wt<=65535)(b:0<=k.de/\k.de<=1048576):
  Calls prog 165 #[jp c] W fun e l=>e=.returned (.tuple #[])/\bZ w L (f.at s (k.open f.g)) xb s c l:=
 h.client d _ _ _ fun m e a=>by subst e;exact P8 _ _ _ _ _ _ _ _ W a i j b
theorem bZ.lose(h:bZ w L f xb s c W)(b:f.K[s]? =some (some k)):
  Calls prog 167 #[jp c] W fun e d=>e=.returned (.tuple #[])/\bZ w L (f.at s k.lose) xb s c d:=
 h.client b _ _ _ fun g e a=>by subst e;exact E2 _ _ _ _ _ _ _ _ W a
theorem bZ.free(h:bZ w L f xb s c W)(m:f.K[s]? =some (some k))(hf:f.jD):
  Calls prog 166 #[jp xb,jp c] W fun e a=>e=.returned (.tuple #[.agg (aC k.fst),.bool (f.free k)])/\bZ w L f xb s c a/\aB W a:=by
 obtain⟨i,n,b,d,j,l⟩:=h;subst j;refine(b.firstFree hf m d).mono ?_;rintro e a ⟨rfl,g⟩;exact⟨rfl,bZ.below ⟨i,n,b,d,rfl,l⟩ g,g⟩
theorem bZ.pay(h:bZ w L f xb s c W)(o:f.K[s]? =some (some k)):
  Calls prog 168 #[jp c,.agg (aC k.fst)] W fun e b=>e=.returned (.bool (decide (cJ k.fst.m<=k.de)))/\bZ w L f xb s c b:=by
 have d:=h;obtain⟨r,q,g,i,j,t⟩:=h;subst j;obtain⟨v,a,l,u⟩:=g.az i;rw[o]at a;cases a;refine(NA q.c k.fst k.de W (av l.p.box rfl)).mono ?_;rintro e b ⟨rfl,n⟩;exact⟨rfl,d.below n⟩
theorem bZ.fU(h:bZ w L f xb s c W)(t:f.K[s]? =some (some k))(hm:f.May)(r:k.Go)(hr:k.gl f.g=true)(u:cJ k.fst.m<=k.de)(v:k.q.length<=1048576):
  Calls prog 169 #[jp xb,jp c] W fun e b=>e=.returned (.tuple #[])/\∃a,ay b (f.fU s k) xb a/\aX w L b a:=by
 obtain⟨d,x,l,n,o,p⟩:=h;subst o;refine(YS W f xb s d k x l t n hm r hr u v).mono ?_;rintro e b ⟨rfl,a,i,j⟩;exact⟨rfl,a,i,p.trans j⟩
end
theorem zu{f:Fx}{k:Ck}(a:f.K[f.az]? =some (some k)):(f.turned k).K[f.az]? =some (some (f.aU k)):=Bi a
theorem KX{f:Fx}{k:Ck}(b:f.K[f.az]? =some (some k))(a:f.opn=true):f.turned k=f:=by unfold Fx.turned Fx.aU;rw[aM a];unfold Fx.at;rw[(ze b)];cases f;cases a;rfl
structure Fx.yA(f:Fx):Prop where
 may:f.May
 az:f.az<f.K.length
 qn:0<=f.g.qn/\f.g.qn<=65535
 who:∀k,f.K[f.az]? =some (some k)->(0<=k.wt/\k.wt<=65535)/\(0<=k.de/\k.de<=1048576)/\(f.aU k).Go
theorem Fx.yA.vi{f:Fx}{k:Ck}(h:f.yA)(a:f.K[f.az]? =some (some k)):(f.turned k).May:=
 have hF:=h.may.fine.at (h.who k a).2.2.fine
 ⟨⟨hF.cl,hF.jb,hF.dA,hF.ku,hF.nZ⟩,h.may.ou,h.may.fresh,h.may.clock,h.may.bF,h.may.bL,h.may.eu,h.may.ku⟩
structure qh(w:an)(f:Fx)(xb:Nat)(L:cQ)(k:Ck)(l:Lc):Prop where
 at_:ay w f xb L
 kk:f.K[f.az]? =some (some k)
 ll:L.cs[f.az]? =some (some l)
 t:f.yA
 qq:k.q.length<=1048576
theorem qh.cells{w f xb L k l}(h:qh w f xb L k l):w.cell? (aa xb 9)=some (.slice (some (aa L.sb 0)) f.K.length f.K.length)/\w.cell? (aa xb 15)=some (aj f.az)/\w.cell? (aa xb 16)=some (.bool f.opn)/\w.cell? (aa L.sb f.az)=some (jp l.c)/\(f.az:Int)<(f.K.length:Int):=by
 refine⟨av h.at_.box rfl,av h.at_.box rfl,av h.at_.box rfl,?_,by have:=h.t.az;omega⟩;have e:(L.cs.map fun l=>l.map Lc.c)[f.az]? =some (some l.c):=by rw[kO,h.ll];rfl
 exact av h.at_.dA (tH e)
theorem qh.tu{w f xb L k l}(h:qh w f xb L k l)(n):bZ w L f xb f.az l.c (w.drewN n):=⟨L,l,h.at_.drewN n,h.ll,rfl,⟨fun _ _=>rfl,(aG.below (ig (Below.refl _ _) n))⟩⟩
theorem Tj{f:Fx}{k:Ck}:(f.aU k).q=k.q:=by unfold Fx.aU;split<;>rfl
theorem aes(w f xb L k)(l:Lc)(h:qh w f xb L k l)(m:f.opn=false)(E:(f.turned k).free (f.aU k)=false):
  Calls prog 107 #[jp xb] w fun e a=>e=.returned (.bool false)/\∃b,ay a ((f.turned k).at f.az (f.aU k).lose) xb b/\aX w L a b:=by
 obtain⟨I,H,A,K,M⟩:=h.cells;have N:=h.t.az;rw[m]at A;have o:=zu h.kk
 have v:Hid (∀n,Calls prog 165 #[jp l.c] (w.drewN n) fun e a=>e=.returned (.tuple #[])/\bZ w L (f.turned k) xb f.az l.c (a.setCell (aa xb 16) (.bool true))/\a.cell? (aa xb 16)=some (.bool false)/\a.frozen? (aa xb 16)=false):=fun n=>by
  refine((h.tu n).open h.kk h.t.qn (h.t.who k h.kk).1 (h.t.who k h.kk).2.1).mono ?_;rintro e a ⟨rfl,d⟩;have i:=d.put;refine⟨rfl,?_,i.2.1.trans (by rw[show(f.at f.az (k.open f.g)).opn=f.opn from rfl,m]),i.2.2⟩;have e:f.turned k={f.at f.az (k.open f.g)with opn:=true}:=by unfold Fx.turned Fx.aU;rw[aD (by rw[m];decide)]
  rw[e];exact i.1
 have s:Hid (∀W,bZ w L (f.turned k) xb f.az l.c W->Calls prog 166 #[jp xb,jp l.c] W fun e a=>e=.returned (.tuple #[.agg (aC (f.aU k).fst),.bool false])/\bZ w L (f.turned k) xb f.az l.c a):=fun W j=>by refine(j.free o (h.t.vi h.kk).fine).mono ?_;rintro e a ⟨rfl,d,_⟩;rw[E];exact⟨rfl,d⟩
 have u:Hid (∀W,bZ w L (f.turned k) xb f.az l.c W->Calls prog 167 #[jp l.c] W fun e a=>e=.returned (.tuple #[])/\∃b,ay a ((f.turned k).at f.az (f.aU k).lose) xb b/\aX w L a b):=fun W j=>by refine(j.lose o).mono ?_;rintro e a ⟨rfl,z,O,d,_,_,i⟩;exact⟨rfl,z,d,i⟩
 have y:Hid (∀W,bZ w L (f.turned k) xb f.az l.c W->bZ w L (f.turned k) xb f.az l.c (W.alloc (.cells (aC (f.aU k).fst) 134))):=fun W j=>j.below (aR);have x:Hid (∀W:an,bQ (W.alloc (.cells (aC (f.aU k).fst) 134)) W.heap.size (f.aU k).fst):=fun W=>bQ.of (bW W _);generalize (f.aU k).fst=r at*;generalize ((f.turned k).at f.az (f.aU k).lose)=F' at*;generalize f.turned k=G at*;generalize l.c=c at*;go_enter func107,ntmps107;go_wp2
 go_quiet (fail)
 go_wp2_with (first
  |(go_at_call 165;refine(v.out _).mono ?_;rintro e w1 ⟨rfl,B,d16,J⟩;have p:=aL B)
  |(go_at_call 166;refine(s.out _ p.out).mono ?_;rintro e F ⟨rfl,C⟩;have q:=aL (y.out _ C);obtain⟨P,Q,R,S,T,U,V,X,Y,Z⟩:=x.out F)
  |(go_at_call 167;refine(u.out _ q.out).mono ?_;rintro e w3 ⟨rfl,D⟩))
 go_ret;exact⟨rfl,D⟩
theorem aem(w f xb L k)(l:Lc)(h:qh w f xb L k l)(o:f.opn=false)(I:(f.turned k).free (f.aU k)=true)(H:¬cJ (f.aU k).fst.m<=(f.aU k).de):
  Calls prog 107 #[jp xb] w fun e a=>e=.returned (.bool false)/\∃i,ay a (f.turned k) xb i/\aX w L a i:=by
 obtain⟨N,M,D,P,Q⟩:=h.cells;have R:=h.t.az;rw[o]at D;have p:=zu h.kk
 have y:Hid (∀n,Calls prog 165 #[jp l.c] (w.drewN n) fun e a=>e=.returned (.tuple #[])/\bZ w L (f.turned k) xb f.az l.c (a.setCell (aa xb 16) (.bool true))/\a.cell? (aa xb 16)=some (.bool false)/\a.frozen? (aa xb 16)=false):=fun n=>by
  refine((h.tu n).open h.kk h.t.qn (h.t.who k h.kk).1 (h.t.who k h.kk).2.1).mono ?_;rintro e a ⟨rfl,b⟩;have j:=b.put;refine⟨rfl,?_,j.2.1.trans (by rw[show(f.at f.az (k.open f.g)).opn=f.opn from rfl,o]),j.2.2⟩;have e:f.turned k={f.at f.az (k.open f.g)with opn:=true}:=by unfold Fx.turned Fx.aU;rw[aD (by rw[o];decide)]
  rw[e];exact j.1
 have x:Hid (∀W,bZ w L (f.turned k) xb f.az l.c W->Calls prog 166 #[jp xb,jp l.c] W fun e a=>e=.returned (.tuple #[.agg (aC (f.aU k).fst),.bool true])/\bZ w L (f.turned k) xb f.az l.c a):=fun W d=>by refine(d.free p (h.t.vi h.kk).fine).mono ?_;rintro e a ⟨rfl,b,_⟩;rw[I];exact⟨rfl,b⟩
 have z:Hid (∀W,bZ w L (f.turned k) xb f.az l.c W->Calls prog 168 #[jp l.c,.agg (aC (f.aU k).fst)] W fun e a=>e=.returned (.bool false)/\bZ w L (f.turned k) xb f.az l.c a):=fun W d=>by refine(d.pay p).mono ?_;rintro e a ⟨rfl,b⟩;rw[ij H];exact⟨rfl,b⟩
 have v:Hid (∀W,bZ w L (f.turned k) xb f.az l.c W->∃i,ay W (f.turned k) xb i/\aX w L W i):=fun W d=>by obtain⟨C,S,b,_,_,j⟩:=d;exact⟨C,b,j⟩
 have B:Hid (∀W,bZ w L (f.turned k) xb f.az l.c W->bZ w L (f.turned k) xb f.az l.c (W.alloc (.cells (aC (f.aU k).fst) 134))):=fun W d=>d.below (aR);have A:Hid (∀W:an,bQ (W.alloc (.cells (aC (f.aU k).fst) 134)) W.heap.size (f.aU k).fst):=fun W=>bQ.of (bW W _);generalize (f.aU k).fst=r at*;generalize f.turned k=K at*;generalize l.c=c at*;go_enter func107,ntmps107;go_wp2
 go_quiet (fail)
 go_wp2_with (first
  |(go_at_call 165;refine(y.out _).mono ?_;rintro e w1 ⟨rfl,E,d16,O⟩;have q:=aL E)
  |(go_at_call 166;refine(x.out _ q.out).mono ?_;rintro e J ⟨rfl,F⟩;have s:=aL (B.out _ F);obtain⟨T,U,V,X,Y,Z,s6,s7,s8,s9⟩:=A.out J)
  |(go_at_call 168;refine(z.out _ s.out).mono ?_;rintro e w3 ⟨rfl,G⟩;have u:=aL G))
 go_ret;exact⟨rfl,(v.out _ u.out)⟩
theorem aep(w f xb L k)(l:Lc)(h:qh w f xb L k l)(p:f.opn=false)(s:(f.turned k).free (f.aU k)=true)(q:cJ (f.aU k).fst.m<=(f.aU k).de):
  Calls prog 107 #[jp xb] w fun e a=>e=.returned (.bool true)/\∃d,ay a ((f.turned k).fU f.az (f.aU k)) xb d/\aX w L a d:=by
 obtain⟨O,N,E,Q,R⟩:=h.cells;have S:=h.t.az;rw[p]at E;have o:=zu h.kk
 have A:Hid (∀n,Calls prog 165 #[jp l.c] (w.drewN n) fun e a=>e=.returned (.tuple #[])/\bZ w L (f.turned k) xb f.az l.c (a.setCell (aa xb 16) (.bool true))/\a.cell? (aa xb 16)=some (.bool false)/\a.frozen? (aa xb 16)=false):=fun n=>by
  refine((h.tu n).open h.kk h.t.qn (h.t.who k h.kk).1 (h.t.who k h.kk).2.1).mono ?_;rintro e a ⟨rfl,i⟩;have j:=i.put;refine⟨rfl,?_,j.2.1.trans (by rw[show(f.at f.az (k.open f.g)).opn=f.opn from rfl,p]),j.2.2⟩;have e:f.turned k={f.at f.az (k.open f.g)with opn:=true}:=by unfold Fx.turned Fx.aU;rw[aD (by rw[p];decide)]
  rw[e];exact j.1
 have z:Hid (∀W,bZ w L (f.turned k) xb f.az l.c W->Calls prog 166 #[jp xb,jp l.c] W fun e a=>e=.returned (.tuple #[.agg (aC (f.aU k).fst),.bool true])/\bZ w L (f.turned k) xb f.az l.c a):=fun W b=>by refine(b.free o (h.t.vi h.kk).fine).mono ?_;rintro e a ⟨rfl,i,_⟩;rw[s];exact⟨rfl,i⟩
 have B:Hid (∀W,bZ w L (f.turned k) xb f.az l.c W->Calls prog 168 #[jp l.c,.agg (aC (f.aU k).fst)] W fun e a=>e=.returned (.bool true)/\bZ w L (f.turned k) xb f.az l.c a):=fun W b=>by refine(b.pay o).mono ?_;rintro e a ⟨rfl,i⟩;rw[iY q];exact⟨rfl,i⟩
 have y:Hid (∀W,bZ w L (f.turned k) xb f.az l.c W->Calls prog 169 #[jp xb,jp l.c] W fun e a=>e=.returned (.tuple #[])/\∃d,ay a ((f.turned k).fU f.az (f.aU k)) xb d/\aX w L a d):=fun W b=>
  b.fU o (h.t.vi h.kk) (h.t.who k h.kk).2.2 (DJ s) q (by rw[Tj];exact h.qq)
 have D:Hid (∀W,bZ w L (f.turned k) xb f.az l.c W->bZ w L (f.turned k) xb f.az l.c (W.alloc (.cells (aC (f.aU k).fst) 134))):=fun W b=>b.below (aR);have C:Hid (∀W:an,bQ (W.alloc (.cells (aC (f.aU k).fst) 134)) W.heap.size (f.aU k).fst):=fun W=>bQ.of (bW W _);generalize (f.aU k).fst=r at*;generalize ((f.turned k).fU f.az (f.aU k))=K at*;generalize f.turned k=M at*;generalize l.c=c at*;go_enter func107,ntmps107;go_wp2
 go_quiet (fail)
 go_wp2_with (first
  |(go_at_call 165;refine(A.out _).mono ?_;rintro e w1 ⟨rfl,F,d16,P⟩;have u:=aL F)
  |(go_at_call 166;refine(z.out _ u.out).mono ?_;rintro e J ⟨rfl,G⟩;have v:=aL (D.out _ G);obtain⟨T,U,V,X,Y,Z,s6,s7,s8,s9⟩:=C.out J)
  |(go_at_call 168;refine(B.out _ v.out).mono ?_;rintro e w3 ⟨rfl,I⟩;have x:=aL I)
  |(go_at_call 169;refine(y.out _ x.out).mono ?_;rintro e w4 ⟨rfl,H⟩))
 go_ret;exact⟨rfl,H⟩
theorem aer(w f xb L k)(l:Lc)(h:qh w f xb L k l)(j:f.opn=true)(B:(f.turned k).free (f.aU k)=false):
  Calls prog 107 #[jp xb] w fun e a=>e=.returned (.bool false)/\∃b,ay a ((f.turned k).at f.az (f.aU k).lose) xb b/\aX w L a b:=by
 obtain⟨F,E,x,G,H⟩:=h.cells;have I:=h.t.az;rw[j]at x;have i:=zu h.kk
 have q:Hid (∀n,bZ w L (f.turned k) xb f.az l.c (w.drewN n)):=fun n=>by rw[KX h.kk j];exact h.tu n
 have o:Hid (∀W,bZ w L (f.turned k) xb f.az l.c W->Calls prog 166 #[jp xb,jp l.c] W fun e a=>e=.returned (.tuple #[.agg (aC (f.aU k).fst),.bool false])/\bZ w L (f.turned k) xb f.az l.c a):=fun W d=>by refine(d.free i (h.t.vi h.kk).fine).mono ?_;rintro e a ⟨rfl,g,_⟩;rw[B];exact⟨rfl,g⟩
 have p:Hid (∀W,bZ w L (f.turned k) xb f.az l.c W->Calls prog 167 #[jp l.c] W fun e a=>e=.returned (.tuple #[])/\∃b,ay a ((f.turned k).at f.az (f.aU k).lose) xb b/\aX w L a b):=fun W d=>by refine(d.lose i).mono ?_;rintro e a ⟨rfl,v,J,g,_,_,y⟩;exact⟨rfl,v,g,y⟩
 have u:Hid (∀W,bZ w L (f.turned k) xb f.az l.c W->bZ w L (f.turned k) xb f.az l.c (W.alloc (.cells (aC (f.aU k).fst) 134))):=fun W d=>d.below (aR);have s:Hid (∀W:an,bQ (W.alloc (.cells (aC (f.aU k).fst) 134)) W.heap.size (f.aU k).fst):=fun W=>bQ.of (bW W _);generalize (f.aU k).fst=r at*;generalize ((f.turned k).at f.az (f.aU k).lose)=F' at*;generalize f.turned k=D at*;generalize l.c=c at*;go_enter func107,ntmps107;go_wp2
 go_quiet (fail)
 go_wp2_with (first
  |(go_at_call 166;refine(o.out _ (q.out _)).mono ?_;rintro e C ⟨rfl,z⟩;have m:=aL (u.out _ z);obtain⟨K,M,N,O,P,Q,R,S,T,U⟩:=s.out C)
  |(go_at_call 167;refine(p.out _ m.out).mono ?_;rintro e V ⟨rfl,A⟩))
 go_ret;exact⟨rfl,A⟩
theorem ael(w f xb L k)(l:Lc)(h:qh w f xb L k l)(j:f.opn=true)(F:(f.turned k).free (f.aU k)=true)(E:¬cJ (f.aU k).fst.m<=(f.aU k).de):
  Calls prog 107 #[jp xb] w fun e a=>e=.returned (.bool false)/\∃d,ay a (f.turned k) xb d/\aX w L a d:=by
 obtain⟨J,I,A,K,M⟩:=h.cells;have N:=h.t.az;rw[j]at A;have i:=zu h.kk
 have u:Hid (∀n,bZ w L (f.turned k) xb f.az l.c (w.drewN n)):=fun n=>by rw[KX h.kk j];exact h.tu n
 have s:Hid (∀W,bZ w L (f.turned k) xb f.az l.c W->Calls prog 166 #[jp xb,jp l.c] W fun e a=>e=.returned (.tuple #[.agg (aC (f.aU k).fst),.bool true])/\bZ w L (f.turned k) xb f.az l.c a):=fun W b=>by refine(b.free i (h.t.vi h.kk).fine).mono ?_;rintro e a ⟨rfl,g,_⟩;rw[F];exact⟨rfl,g⟩
 have v:Hid (∀W,bZ w L (f.turned k) xb f.az l.c W->Calls prog 168 #[jp l.c,.agg (aC (f.aU k).fst)] W fun e a=>e=.returned (.bool false)/\bZ w L (f.turned k) xb f.az l.c a):=fun W b=>by refine(b.pay i).mono ?_;rintro e a ⟨rfl,g⟩;rw[ij E];exact⟨rfl,g⟩
 have q:Hid (∀W,bZ w L (f.turned k) xb f.az l.c W->∃d,ay W (f.turned k) xb d/\aX w L W d):=fun W b=>by obtain⟨z,O,g,_,_,B⟩:=b;exact⟨z,g,B⟩
 have y:Hid (∀W,bZ w L (f.turned k) xb f.az l.c W->bZ w L (f.turned k) xb f.az l.c (W.alloc (.cells (aC (f.aU k).fst) 134))):=fun W b=>b.below (aR);have x:Hid (∀W:an,bQ (W.alloc (.cells (aC (f.aU k).fst) 134)) W.heap.size (f.aU k).fst):=fun W=>bQ.of (bW W _);generalize (f.aU k).fst=r at*;generalize f.turned k=H at*;generalize l.c=c at*;go_enter func107,ntmps107;go_wp2
 go_quiet (fail)
 go_wp2_with (first
  |(go_at_call 166;refine(s.out _ (u.out _)).mono ?_;rintro e G ⟨rfl,C⟩;have o:=aL (y.out _ C);obtain⟨P,Q,R,S,T,U,V,X,Y,Z⟩:=x.out G)
  |(go_at_call 168;refine(v.out _ o.out).mono ?_;rintro e w3 ⟨rfl,D⟩;have p:=aL D))
 go_ret;exact⟨rfl,(q.out _ p.out)⟩
theorem aeo(w f xb L k)(l:Lc)(h:qh w f xb L k l)(j:f.opn=true)(p:(f.turned k).free (f.aU k)=true)(o:cJ (f.aU k).fst.m<=(f.aU k).de):
  Calls prog 107 #[jp xb] w fun e a=>e=.returned (.bool true)/\∃d,ay a ((f.turned k).fU f.az (f.aU k)) xb d/\aX w L a d:=by
 obtain⟨J,I,B,K,M⟩:=h.cells;have N:=h.t.az;rw[j]at B;have i:=zu h.kk
 have x:Hid (∀n,bZ w L (f.turned k) xb f.az l.c (w.drewN n)):=fun n=>by rw[KX h.kk j];exact h.tu n
 have v:Hid (∀W,bZ w L (f.turned k) xb f.az l.c W->Calls prog 166 #[jp xb,jp l.c] W fun e a=>e=.returned (.tuple #[.agg (aC (f.aU k).fst),.bool true])/\bZ w L (f.turned k) xb f.az l.c a):=fun W b=>by refine(b.free i (h.t.vi h.kk).fine).mono ?_;rintro e a ⟨rfl,g,_⟩;rw[p];exact⟨rfl,g⟩
 have y:Hid (∀W,bZ w L (f.turned k) xb f.az l.c W->Calls prog 168 #[jp l.c,.agg (aC (f.aU k).fst)] W fun e a=>e=.returned (.bool true)/\bZ w L (f.turned k) xb f.az l.c a):=fun W b=>by refine(b.pay i).mono ?_;rintro e a ⟨rfl,g⟩;rw[iY o];exact⟨rfl,g⟩
 have u:Hid (∀W,bZ w L (f.turned k) xb f.az l.c W->Calls prog 169 #[jp xb,jp l.c] W fun e a=>e=.returned (.tuple #[])/\∃d,ay a ((f.turned k).fU f.az (f.aU k)) xb d/\aX w L a d):=fun W b=>
  b.fU i (h.t.vi h.kk) (h.t.who k h.kk).2.2 (DJ p) o (by rw[Tj];exact h.qq)
 have A:Hid (∀W,bZ w L (f.turned k) xb f.az l.c W->bZ w L (f.turned k) xb f.az l.c (W.alloc (.cells (aC (f.aU k).fst) 134))):=fun W b=>b.below (aR);have z:Hid (∀W:an,bQ (W.alloc (.cells (aC (f.aU k).fst) 134)) W.heap.size (f.aU k).fst):=fun W=>bQ.of (bW W _);generalize (f.aU k).fst=r at*;generalize ((f.turned k).fU f.az (f.aU k))=G at*;generalize f.turned k=H at*;generalize l.c=c at*;go_enter func107,ntmps107;go_wp2
 go_quiet (fail)
 go_wp2_with (first
  |(go_at_call 166;refine(v.out _ (x.out _)).mono ?_;rintro e F ⟨rfl,C⟩;have q:=aL (A.out _ C);obtain⟨O,P,Q,R,S,T,U,V,X,Y⟩:=z.out F)
  |(go_at_call 168;refine(y.out _ q.out).mono ?_;rintro e Z ⟨rfl,E⟩;have s:=aL E)
  |(go_at_call 169;refine(u.out _ s.out).mono ?_;rintro e w4 ⟨rfl,D⟩))
 go_ret;exact⟨rfl,D⟩
theorem aen(w f xb L)(h:ay w f xb L)(k:f.az<f.K.length)(a:L.cs[f.az]? =some none):
  Calls prog 107 #[jp xb] w fun e b=>e=.returned (.bool false)/\∃m,b=w.drewN m:=by
 have g:=aE w xb 9 (.slice (some (aa L.sb 0)) f.K.length f.K.length) h.box;have d:=aE w xb 15 (aj f.az) h.box
 have i:w.cell? (aa L.sb f.az)=some (.pointer none):=by
  have e:(L.cs.map fun l=>l.map Lc.c)[f.az]? =some none:=by rw[kO,a];rfl
  exact av h.dA (tH e)
 have j:(f.az:Int)<(f.K.length:Int):=ak;clear h;go_enter func107,ntmps107;go_wp2
 go_quiet (fail)
 go_wp2;go_ret;exact⟨rfl,_,rfl⟩
theorem Zg(w f xb L)(h:ay w f xb L)(g:f.yA)(t:∀k,f.K[f.az]? =some (some k)->k.q.length<=1048576):
  Calls prog 107 #[jp xb] w fun e o=>e=.returned (.bool f.bC.2)/\∃p,ay o f.bC.1 xb p/\aX w L o p:=by
 have v:=g.az;have b:=dN g.az;cases e:f.K[f.az]with
 |none=>
  rw[e]at b;have u:f.az<L.cs.length:=by rw[h.cs.len];exact g.az
  have n:L.cs[f.az]? =some none:=by
   have j:=dN u;have s:=h.cs.at_ _ _ _ b j;cases r:L.cs[f.az]with
   |none=>rw[r]at j;exact j
   |some l=>rw[r]at s;exact absurd s (by simp[nN])
  have i:f.bC=(f,false):=by unfold Fx.bC;rw[b]
  rw[i];refine(aen w f xb L h g.az n).mono ?_;rintro e o ⟨rfl,m,rfl⟩;exact⟨rfl,L,h.drewN m,⟨fun _ _=>rfl,aG.below (ig (Below.refl _ _) m)⟩⟩
 |some k=>
  rw[e]at b;obtain⟨l,n,_⟩:=h.sat b;have hI:qh w f xb L k l:=⟨h,b,n,g,t k b⟩;have i:f.bC=if(f.turned k).free (f.aU k)then(if cJ (f.aU k).fst.m<=(f.aU k).de then((f.turned k).fU f.az (f.aU k),true)else(f.turned k,false))else((f.turned k).at f.az (f.aU k).lose,false):=by unfold Fx.bC;rw[b]
  rw[i];cases c:f.opn<;>cases d:(f.turned k).free (f.aU k)
  ·simp;exact aes w f xb L k l hI c d
  ·by_cases a:cJ (f.aU k).fst.m<=(f.aU k).de
   ·simp only[cD,a];exact aep w f xb L k l hI c d a
   ·simp only[cD,a,dy];exact aem w f xb L k l hI c d a
  ·simp only[eA,dy];exact aer w f xb L k l hI c d
  ·by_cases a:cJ (f.aU k).fst.m<=(f.aU k).de
   ·simp only[cD,a];exact aeo w f xb L k l hI c d a
   ·simp only[cD,a,dy];exact ael w f xb L k l hI c d a
def Fx.pass(f:Fx):Fx:={f with az:=(f.az+1)%f.K.length,opn:=false}
theorem Q8{w f xb L}(h:ay w f xb L):ay ((w.setCell (aa xb 15) (aj (((f.az+1)%f.K.length:Nat):Int))).setCell (aa xb 16) (.bool false)) f.pass xb L:=by have a:ay (w.setCell (aa xb 15) (aj (((f.az+1)%f.K.length:Nat):Int))) {f with az:=(f.az+1)%f.K.length} xb L:=h.put 15 _ {f with az:=(f.az+1)%f.K.length} (by simp[kr]) rfl rfl rfl rfl rfl ⟨rfl,rfl,rfl⟩;exact a.put 16 _ f.pass (by simp[kr,Fx.pass]) rfl rfl rfl rfl rfl ⟨rfl,rfl,rfl⟩
theorem YX(w f xb L)(h:ay w f xb L)(l:f.az<f.K.length)(hc:f.g.cl=f.K.length)(n:f.K.length<=65535):
  Calls prog 108 #[jp xb] w fun e m=>e=.returned (.tuple #[])/\ay m f.pass xb L/\aX w L m L:=by
 have b:w.cell? (aa xb 1)=some (aj f.K.length):=by rw[<-hc];exact av h.box rfl
 have c:=aE w xb 15 (aj f.az) h.box;have o:=aE w xb 16 (.bool f.opn) h.box;have f15:=aS h.box 15;have f16:=aS h.box 16;have a:Hid (ay ((w.setCell (aa xb 15) (aj (((f.az+1)%f.K.length:Nat):Int))).setCell (aa xb 16) (.bool false)) f.pass xb L/\L.own xb≠0):=⟨Q8 h,by rw[h.dX];omega⟩;obtain⟨N,i⟩:∃N,f.K.length=N:=⟨_,rfl⟩;obtain⟨j,k⟩:∃j,f.az=j:=⟨_,rfl⟩;rw[i]at l n b a;rw[k]at l c a;have p:¬N=0:=ak
 have q:(IntKind.i64.wrap ((j:Int)+1)).tmod (N:Int)=(((j+1)%N:Nat):Int):=by rw[pP ak ak,show((j:Int)+1)=((j+1:Nat):Int) by omega];rfl
 clear h hc i k;generalize f.opn=op at*;go_enter func108,ntmps108
 go_upto_region 0 with fail
 refine gW ?_;refine dh (S:=fun W=>W.cell? (aa xb 1)=some (aj N)/\W.cell? (aa xb 15)=some (aj j)) 16 aI ⟨b,c⟩ ?_;intro hS;refine gk 0 ?_;refine gk 1 ?_;refine gk 2 ?_;refine gk 3 ?_;refine gk 4 ?_;refine gs 5 ?_;refine gk 6 ?_;refine gk 7 ?_;refine gk 8 ?_;refine gk 9 ?_;refine gk 10 ?_;refine gs 11 ?_;refine gk 12 ?_;refine gk 13 ?_;refine gk 14 ?_;refine gk 15 ?_;refine gz fun K d=>?_;go_simp;refine d.out _ _ ?_;clear d K;refine dJ aI ?_ _;refine gp ?_;go_wp2_with fail;exact dZ rfl rfl ⟨rfl,a.out.1.drew,⟨fun _ _=>rfl,(((aG.refl _ _).set a.out.2 _).set a.out.2 _).drew⟩⟩
def Fx.turns:Nat->Nat->Fx->Fx
 |0,_,f=>f
 |n+1,p,f=>if(f.fl.length:Int)<f.g.wk/\(p:Int)<=f.g.cl then(if f.bC.2 then Fx.turns n 0 f.bC.1 else Fx.turns n (p+1) f.bC.1.pass)else f
def Fx.fuel(f:Fx)(p:Nat):Nat:=(f.g.wk.toNat-f.fl.length) *(f.g.cl.toNat+2)+(f.g.cl.toNat+1-p)
structure Abides(P:Fx->Prop):Prop where
 zq:∀f,P f->f.yA/\(∀k,f.K[f.az]? =some (some k)->k.q.length<=1048576)/\f.g.cl=f.K.length/\f.K.length<=65535/\1<=f.g.wk
 used:∀f,P f->(f.fl.length:Int)<f.g.wk->f.bC.2=true->P f.bC.1
 pass:∀f,P f->f.bC.2=false->P f.bC.1.pass
theorem FA(f:Fx):f.bC.1.g=f.g/\f.bC.1.K.length=f.K.length/\f.bC.1.az=f.az/\(f.bC.2=true->f.bC.1.fl.length=f.fl.length+1)/\(f.bC.2=false->f.bC.1.fl=f.fl):=by
 unfold Fx.bC;split
 ·split
  ·split
   ·refine⟨rfl,by simp[Fx.fU,Fx.turned],rfl,fun _=>?_,fun h=>by simp at h⟩;simp only[Fx.fU];exact JV (Rs _ _)
   ·exact⟨rfl,by simp[Fx.turned],rfl,fun h=>by simp at h,fun _=>rfl⟩
  ·exact⟨rfl,by simp[Fx.turned],rfl,fun h=>by simp at h,fun _=>rfl⟩
 ·exact⟨rfl,rfl,rfl,fun h=>by simp at h,fun _=>rfl⟩
theorem It{f:Fx}{p:Nat}(h:(f.fl.length:Int)<f.g.wk)(e:f.bC.2=true):f.bC.1.fuel 0<f.fuel p:=by obtain⟨a,_,_,b,_⟩:=FA f;unfold Fx.fuel;rw[a,b e];obtain⟨d,c⟩:∃d,f.g.wk.toNat-f.fl.length=d+1:=⟨f.g.wk.toNat-f.fl.length-1,ak⟩;rw[c,show f.g.wk.toNat-(f.fl.length+1)=d by omega,Nat.add_mul,Nat.one_mul];omega
theorem Ir{f:Fx}{p:Nat}(d:(p:Int)<=f.g.cl)(c:f.bC.2=false):f.bC.1.pass.fuel (p+1)<f.fuel p:=by obtain⟨a,_,_,_,b⟩:=FA f;unfold Fx.fuel;show(f.bC.1.g.wk.toNat-f.bC.1.fl.length) *(f.bC.1.g.cl.toNat+2)+(f.bC.1.g.cl.toNat+1-(p+1))<_;rw[a,b c];omega
theorem Tk:∀(n m p:Nat) (f:Fx),f.fuel p<=n->f.fuel p<=m->Fx.turns n p f=Fx.turns m p f:=by
 intro n;induction n with
 |zero=>
  intro m p f b hm;cases m with
  |zero=>rfl
  |succ m=>
   rw[Fx.turns,Fx.turns]
   by_cases a:(f.fl.length:Int)<f.g.wk/\(p:Int)<=f.g.cl
   ·exfalso;unfold Fx.fuel at b;have:f.g.cl.toNat+1-p=0:=ak;omega
   ·rw[aD a]
 |succ n d=>
  intro m p f b hm;cases m with
  |zero=>
   rw[Fx.turns,Fx.turns]
   by_cases a:(f.fl.length:Int)<f.g.wk/\(p:Int)<=f.g.cl
   ·exfalso;unfold Fx.fuel at hm;have:f.g.cl.toNat+1-p=0:=ak;omega
   ·rw[aD a]
  |succ m=>
   rw[Fx.turns,Fx.turns]
   by_cases a:(f.fl.length:Int)<f.g.wk/\(p:Int)<=f.g.cl
   ·rw[aM a,aM a];cases c:f.bC.2 with
    |true=>
     simp only[cD];have:=It (p:=p) a.1 c;exact d m 0 _ ak ak
    |false=>
     simp;have:=Ir (p:=p) a.2 c;exact d m (p+1) _ ak ak
   ·rw[aD a,aD a]
theorem ay.DO{w f xb L}(h:ay w f xb L):fq w xb 18 L.hv f.fl.length L.hf:=
 ⟨av h.box rfl,h.fl.row,fun e=>by have:=h.fl.own xb e.symm;rw[h.dX]at this;omega⟩
theorem aX.drewN{w W L M}(h:aX w L W M)(n):aX w L (W.drewN n) M:=⟨h.own,h.bS.trans (.below (ig (Below.refl _ _) n))⟩
structure uH(P:Fx->Prop)(w:an)(L:cQ)(g:Cf)(F:Fx)(xb p:Nat)(wr:an)(f1:Fx)(a:cQ):Prop where
 at_:ay wr f1 xb a
 fV:aX w L wr a
 pp:P f1
 gg:f1.g=g
 end_:Fx.turns (f1.fuel p) p f1=F
theorem uH.len{P w wr L L1 g F f1 xb p}(h:uH P w L g F xb p wr f1 L1):(g.wk.toNat-qA (wr.cell? (aa xb 18))) *(g.cl.toNat+2)+(g.cl.toNat+1-p)=f1.fuel p:=by obtain⟨a,b,e,_⟩:=h.at_.DO.form;rw[h.at_.DO.head,e];unfold Fx.fuel;rw[h.gg];rfl
theorem aee{f1 F}{g:Cf}{p:Nat}(f:f1.g=g)(a:(f1.fl.length:Int)<g.wk)(d:(p:Int)<=g.cl)(c:f1.bC.2=true)(b:Fx.turns (f1.fuel p) p f1=F):Fx.turns (f1.bC.1.fuel 0) 0 f1.bC.1=F:=by subst f;have hm:=It (p:=p) a c;obtain⟨m,e⟩:∃m,f1.fuel p=m+1:=⟨f1.fuel p-1,ak⟩;rw[e,Fx.turns,aM ⟨a,d⟩,aM c]at b;rw[<-b];exact Tk _ _ _ _ (aV _) ak
theorem aed{f1 F}{g:Cf}{p:Nat}(d:f1.g=g)(c:(f1.fl.length:Int)<g.wk)(a:(p:Int)<=g.cl)(f:f1.bC.2=false)(b:Fx.turns (f1.fuel p) p f1=F):Fx.turns (f1.bC.1.pass.fuel (p+1)) (p+1) f1.bC.1.pass=F:=by subst d;have hm:=Ir a f;obtain⟨m,e⟩:∃m,f1.fuel p=m+1:=⟨f1.fuel p-1,ak⟩;rw[e,Fx.turns,aM ⟨c,a⟩,aD (by grind)]at b;rw[<-b];exact Tk _ _ _ _ (aV _) ak
theorem Zc(P:Fx->Prop)(C:Abides P)(w f xb L)(h:ay w f xb L)(D:P f):
  Calls prog 63 #[jp xb] w fun e c=>e=.returned (.tuple #[])/\P (Fx.turns (f.fuel 0) 0 f)/\∃b,ay c (Fx.turns (f.fuel 0) 0 f) xb b/\aX w L c b:=by
 have I:Hid (uH P w L f.g (Fx.turns (f.fuel 0) 0 f) xb 0 w f L):=⟨h,aX.refl _ _,D,rfl,rfl⟩;have r:=aL C;have V:f.g.cl<=65535:=by have:=(C.zq f D).2.2;omega
 generalize Fx.turns (f.fuel 0) 0 f=F at*;go_enter func63,ntmps63;go_wp2
 go_loopw [2] (fun A wr=>∃p:Nat,A=aj p/\p<=65536/\Hid (∃f1 j,uH P w L f.g F xb p wr f1 j)) (fun A W=>(f.g.wk.toNat-qA (W.cell? (aa xb 18))) *(f.g.cl.toNat+2)+(f.g.cl.toNat+1-(gu A).toNat))
 case atStart=>exact⟨0,rfl,ak,f,L,I.out⟩
 case round=>
  obtain⟨p,rfl,X,hR⟩:=hrel;obtain⟨f1,j,T⟩:=hR.out;have U:wr.cell? (aa xb 7)=some (aj f.g.wk):=by rw[<-T.gg];exact av T.at_.box rfl
  have S:wr.cell? (aa xb 1)=some (aj f.g.cl):=by rw[<-T.gg];exact av T.at_.box rfl
  have q:Hid (∀n,Calls prog 77 #[.pointer (some (aa xb 18))] (wr.drewN n) fun e c=>e=.returned (aj f1.fl.length)/\c=wr.drewN n):=fun n=>ZM xb 18 _ j.hv j.hf (wr.drewN n) (T.at_.drewN n).DO;have d:=aL T;have B:Hid (∀n,F=f1->P F/\∃b,ay (wr.drewN n) F xb b/\aX w L (wr.drewN n) b):=fun n e=>by rw[e];exact⟨T.pp,j,T.at_.drewN n,T.fV.drewN n⟩
  by_cases k:(f1.fl.length:Int)<f.g.wk
  ·have d1:=iY k
   by_cases o:(p:Int)<=f.g.cl
   ·have d2:=iY o
    have s:Hid (∀n,Calls prog 107 #[jp xb] (wr.drewN n) fun e c=>e=.returned (.bool f1.bC.2)/\∃b,ay c f1.bC.1 xb b/\aX w L c b):=fun n=>by have T:=d.out;have a:=r.out.zq f1 T.pp;refine(Zg (wr.drewN n) f1 xb j (T.at_.drewN n) a.1 a.2.1).mono ?_;rintro e c ⟨rfl,b,b1,m⟩;exact⟨rfl,b,b1,(T.fV.drewN n).trans m⟩
    cases i:f1.bC.2 with
    |true=>
     rw[i]at s
     have y:Hid (∀c,(∃b,ay c f1.bC.1 xb b/\aX w L c b)->∃b,uH P w L f.g F xb 0 c f1.bC.1 b):=fun c ⟨b,b1,m⟩=>by have T:=d.out;refine⟨b,b1,m,r.out.used f1 T.pp (by rw[T.gg];exact k) i,(FA f1).1.trans T.gg,?_⟩;exact aee T.gg k o i T.end_
     have HM:Hid (f1.bC.1.fuel 0<f1.fuel p):=It (by rw[d.out.gg];exact k) i;go_wp2
     go_quiet ((go_at_call 77;exact BH (q.out _)))
     go_wp2_with (go_at_call 107;refine(s.out _).mono ?_;rintro e t ⟨rfl,z⟩;have v:Hid (∃b,uH P w L f.g F xb 0 t f1.bC.1 b):=y.out _ z);obtain⟨b,l⟩:=v.out;refine⟨⟨0,rfl,ak,f1.bC.1,b,l⟩,?_⟩;have M:=l.len;have N:=d.out.len;have:=HM.out;simp only[gu,Int.toNat_zero,Uu]at*;omega
    |false=>
     rw[i]at s
     have y:Hid (∀c,(∃b,ay c f1.bC.1 xb b/\aX w L c b)->Calls prog 108 #[jp xb] c fun e E=>e=.returned (.tuple #[])/\∃b,uH P w L f.g F xb (p+1) E f1.bC.1.pass b):=fun c ⟨b,b1,m⟩=>by have T:=d.out;have a:=r.out.zq f1 T.pp;have u:=FA f1;refine(YX c _ xb b b1 (by rw[u.2.2.1,u.2.1];exact a.1.az) (by rw[u.1,u.2.1];exact a.2.2.1) (by rw[u.2.1];exact a.2.2.2.1)).mono ?_;rintro e E ⟨rfl,J,K⟩;refine⟨rfl,b,J,m.trans K,r.out.pass f1 T.pp i,u.1.trans T.gg,?_⟩;exact aed T.gg k o i T.end_
     have HM:Hid (f1.bC.1.pass.fuel (p+1)<f1.fuel p):=Ir (by rw[d.out.gg];exact o) i;have Y:p<=65535:=ak;go_wp2
     go_quiet ((go_at_call 77;exact BH (q.out _)))
     go_wp2_with (first
      |(go_at_call 107;refine(s.out _).mono ?_;rintro e t ⟨rfl,z⟩;have v:Hid (∃b,ay t f1.bC.1 xb b/\aX w L t b):=z)
      |(go_at_call 108;refine(y.out _ v.out).mono ?_;rintro e R ⟨rfl,Q⟩;have G:Hid (∃b,uH P w L f.g F xb (p+1) R f1.bC.1.pass b):=Q))
     obtain⟨b,l⟩:=G.out;refine⟨⟨p+1,by go_num,ak,f1.bC.1.pass,b,l⟩,?_⟩;have M:=l.len;have N:=d.out.len;have:=HM.out;have O:((p:Int)+1).toNat=p+1:=ak;simp only[gu,Uu,O]at*;omega
   ·have d2:=ij o
    have hF:F=f1:=by
     rw[<-d.out.end_];cases f1.fuel p with
     |zero=>rfl
     |succ n=>rw[Fx.turns,aD (by rw[d.out.gg];omega)]
    have H:=fun n=>B.out n hF;have x:Hid (∀n,P F/\∃b,ay (wr.drewN n) F xb b/\aX w L (wr.drewN n) b):=H;go_wp2
    go_quiet ((go_at_call 77;exact BH (q.out _)))
    go_wp2;exact dZ rfl rfl ⟨rfl,x.out _⟩
  ·have d1:=ij k
   have hF:F=f1:=by
    rw[<-d.out.end_];cases f1.fuel p with
    |zero=>rfl
    |succ n=>rw[Fx.turns,aD (by rw[d.out.gg];omega)]
   have x:Hid (∀n,P F/\∃b,ay (wr.drewN n) F xb b/\aX w L (wr.drewN n) b):=fun n=>B.out n hF;go_wp2
   go_quiet ((go_at_call 77;exact BH (q.out _)))
   go_wp2;exact dZ rfl rfl ⟨rfl,x.out _⟩
def Fx.fZ(f:Fx)(j:Nat):Fx:=match f.K[j]? with
 |some (some k)=>if k.gone then{f with K:=f.K.set j none,opn:=if f.az=j then false else f.opn}else f
 |_=>f
def Fx.cO(f:Fx)(j:Nat):Fx:=(List.range j).foldl Fx.fZ f
theorem AJ(f:Fx)(j:Nat):f.cO (j+1)=(f.cO j).fZ j:=by simp[Fx.cO,xP]
def Fx.uE(f:Fx):Prop:=∀b∈f.fl,∀k,f.K[b.s]? =some (some k)->k.gone=false
theorem Zp{f:Fx}(h:f.uE)(j):(f.fZ j).uE/\(f.fZ j).K.length=f.K.length:=by
 unfold Fx.fZ;split
 ·split
  ·refine⟨fun b c k d=>?_,aq⟩;have a:=d;rw[kQ]at a;split at a
   ·split at a
    ·simp at a
    ·simp at a
   ·exact h b c k a
  ·exact⟨h,rfl⟩
 ·exact⟨h,rfl⟩
section
variable {W:an} {f:Fx} {xb j:Nat} {L:cQ}
theorem ay.leave(h:ay W f xb L)(m:∀b∈f.fl,b.s≠j):ay (W.setCell (aa L.sb j) (.pointer none)) {f with K:=f.K.set j none} xb {L with cs:=L.cs.set j none}:=by
 have a:eH W (W.setCell (aa L.sb j) (.pointer none)) L.own L.own fun t=>t=2:=⟨fun b c p=>bH fun e=>p (by rw[e];exact h.gT),fun _ _=>rfl⟩;have b1:=a.blk h.box h.dX ak;have d:=a.row h.bL h.kg ak;have g:=a.row h.log h.lu ak;have k:=a.ey h.ey h.iw ak;refine⟨?_,b1.2,?_,h.gT,a.Du h.cs (fun x _=>by omega) trivial,⟨h.js.len,fun i b l c n=>?_⟩,a.nS h.fl ak,d.1,d.2,g.1,g.2,k.1,k.2⟩
 ·have e:=b1.1;simpa[kr]using e
 ·have e:=bV h.dA j (jM none);rw[RP]at e;rw[List.map_set];exact e
 ·refine(h.js.at_ i b l c n).aside a (fun lc o=>⟨lc,?_,rfl⟩) ak;rw[BS (cW (m b (iG c)))];exact o
end
structure nI(w:an)(L:cQ)(f:Fx)(xb j:Nat)(wr:an)(a:cQ):Prop where
 at_:ay wr (f.cO j) xb a
 fV:aX w L wr a
 sb:a.sb=L.sb
 len:(f.cO j).K.length=f.K.length
 stay:(f.cO j).uE
theorem nI.same{w wr L L1 f xb j}(h:nI w L f xb j wr L1)(e:(f.cO j).fZ j=f.cO j):nI w L f xb (j+1) wr L1:=by
 refine⟨?_,h.fV,h.sb,?_,?_⟩<;>rw[AJ,e]
 ·exact h.at_
 ·exact h.len
 ·exact h.stay
theorem nI.next{w wr L c}{f:Fx}{xb j:Nat}{k:Ck}(h:nI w L f xb j wr c)(i:(f.cO j).K[j]? =some (some k))(g:k.gone=true):
  nI w L f xb (j+1) (if(f.cO j).az=j then(wr.setCell (aa L.sb j) (.pointer none)).setCell (aa xb 16) (.bool false)else wr.setCell (aa L.sb j) (.pointer none)) {c with cs:=c.cs.set j none}:=by
 have o:∀b∈(f.cO j).fl,b.s≠j:=fun b n e=>by have:=h.stay b n k (by rw[e];exact i);rw[g]at this;cases this
 have d:=h.at_.leave o;have m:wr.setCell (aa c.sb j) (.pointer none)=wr.setCell (aa L.sb j) (.pointer none):=by rw[h.sb]
 rw[m]at d;have l:c.own L.sb≠0:=by rw[<-h.sb,h.at_.gT];omega
 have p:c.own xb≠0:=by rw[h.at_.dX];omega
 have e:(f.cO j).fZ j={f.cO j with K:=(f.cO j).K.set j none,opn:=if(f.cO j).az=j then false else(f.cO j).opn}:=by unfold Fx.fZ;rw[i];simp only[g,cD]
 obtain⟨q,r⟩:=Zp h.stay j;refine⟨?_,?_,h.sb,by rw[AJ,r];exact h.len,by rw[AJ];exact q⟩
 ·rw[AJ,e]
  by_cases a:(f.cO j).az=j
  ·rw[aM a,aM a];exact d.put 16 (.bool false) {f.cO j with K:=(f.cO j).K.set j none,opn:=false} (by simp[kr]) rfl rfl rfl rfl rfl ⟨rfl,rfl,rfl⟩
  ·rw[aD a,aD a];exact d
 ·refine h.fV.trans ⟨fun _ _=>rfl,?_⟩
  by_cases a:(f.cO j).az=j
  ·rw[aM a];exact((aG.refl _ _).set l _).set p _
  ·rw[aD a];exact(aG.refl _ _).set l _
theorem nI.cells{w wr L L1 f xb j}(h:nI w L f xb j wr L1):wr.cell? (aa xb 9)=some (.slice (some (aa L.sb 0)) f.K.length f.K.length)/\wr.cell? (aa xb 15)=some (aj (f.cO j).az)/\wr.cell? (aa xb 16)=some (.bool (f.cO j).opn)/\wr.frozen? (aa xb 16)=false/\wr.frozen? (aa L.sb j)=false/\L.sb≠xb:=by
 refine⟨?_,av h.at_.box rfl,av h.at_.box rfl,aS h.at_.box 16,?_,fun e=>?_⟩
 ·have:=av h.at_.box (i:=9) (v:=.slice (some (aa L1.sb 0)) (f.cO j).K.length (f.cO j).K.length) rfl;rw[h.sb,h.len]at this;exact this
 ·rw[<-h.sb];exact aS h.at_.dA j
 ·have:=h.at_.gT;rw[h.sb,e,h.at_.dX]at this;omega
theorem nI.az{w wr L L1 f xb j v}(h:nI w L f xb j wr L1)(hv:(f.cO j).K[j]? =some v):∃u:Option Nat,wr.cell? (aa L.sb j)=some (jM u)/\(v=none->u=none)/\∀k,v=some k->∃c,u=some c/\fE 109 #[jp c] wr (.bool k.gone):=by
 have g:j<L1.cs.length:=by rw[h.at_.cs.len];exact(ed.1 hv).1
 have b:=dN g;have hr:=h.at_.cs.at_ j _ _ hv b;have d:(L1.cs.map fun l=>l.map Lc.c)[j]? =some (L1.cs[j].map Lc.c):=by rw[kO,b];rfl
 refine⟨L1.cs[j].map Lc.c,?_,fun e=>?_,fun k e=>?_⟩
 ·rw[<-h.sb];exact av h.at_.dA (tH d)
 ·subst e;cases a:L1.cs[j]with
  |none=>rfl
  |some l=>rw[a]at hr;exact absurd hr (by simp[nN])
 ·subst e;cases a:L1.cs[j]with
  |none=>rw[a]at hr;exact absurd hr (by simp[nN])
  |some l=>
   rw[a]at hr;exact⟨l.c,rfl,w9 _ _ _ _ _ _ _ _ wr hr.1⟩
theorem OY(w f xb L)(h:ay w f xb L)(q:f.uE)(I:f.K.length<=65535):
  Calls prog 64 #[jp xb] w fun e B=>e=.returned (.tuple #[])/\∃g,ay B (f.cO f.K.length) xb g/\aX w L B g:=by
 have G:=aE w xb 9 (.slice (some (aa L.sb 0)) f.K.length f.K.length) h.box;have E:Hid (nI w L f xb 0 w L):=⟨h,aX.refl _ _,rfl,rfl,q⟩;obtain⟨N,r⟩:∃N,f.K.length=N:=⟨_,rfl⟩;have x:=aL r;rw[r]at G I⊢;clear h q r;go_enter func64,ntmps64;go_wp2
 go_loopw [9] (fun i wr=>∃j:Nat,j<=N/\i=aj j/\Hid (∃l,nI w L f xb j wr l)) (fun i _=>N-(gu i).toNat)
 case atStart=>exact⟨0,eE _,rfl,L,E.out⟩
 case round=>
  obtain⟨j,S,rfl,y⟩:=hrel;obtain⟨l,A⟩:=y.out;obtain⟨H,P,Q,f16,R,O⟩:=A.cells;rw[x.out]at H
  by_cases M:j<N
  ·have J:decide ((j:Int)<(N:Int))=true:=bK;obtain⟨v,hv⟩:∃v,(f.cO j).K[j]? =some v:=⟨(f.cO j).K[j]'(by rw[A.len,x.out];exact M),by rw[dN]⟩;obtain⟨u,s,p,o⟩:=A.az hv;cases v with
   |none=>
    rw[p rfl]at s;have a:=aL (A.same (by unfold Fx.fZ;rw[hv]));simp only[jM,Cg]at s;clear A hv p o;go_wp2;refine⟨⟨j+1,ak,by go_num,l,a.out⟩,?_⟩;simp[gu];omega
   |some k=>
    obtain⟨c,rfl,b⟩:=o k rfl;simp only[jM,qV]at s;cases d:k.gone with
    |false=>
     have a:=aL (A.same (by unfold Fx.fZ;rw[hv];simp[d]));have n:Hid (fE 109 #[jp c] wr (.bool false)):=by rw[d]at b;exact b
     clear A hv p o b d;go_wp2_with (go_at_call 109;refine n.out.mono ?_;rintro e C ⟨rfl,rfl⟩);refine⟨⟨j+1,ak,by go_num,l,a.out⟩,?_⟩;simp[gu];omega
    |true=>
     have a:Hid (∃F,nI w L f xb (j+1) (if(f.cO j).az=j then(wr.setCell (aa L.sb j) (.pointer none)).setCell (aa xb 16) (.bool false)else wr.setCell (aa L.sb j) (.pointer none)) F):=⟨_,A.next hv d⟩;have n:Hid (fE 109 #[jp c] wr (.bool true)):=by rw[d]at b;exact b
     have T:¬xb=L.sb:=fun e=>O e.symm;clear A hv p o b d y;generalize (f.cO j).az=t at*;generalize (f.cO j).opn=op at*
     by_cases m:t=j
     ·have q:((t:Int)==(j:Int))=true:=by simp[m]
      rw[aM m]at a;clear m;go_wp2_with (go_at_call 109;refine n.out.mono ?_;rintro e C ⟨rfl,rfl⟩);refine⟨⟨j+1,ak,by go_num,a.out⟩,?_⟩;simp[gu];omega
     ·have q:((t:Int)==(j:Int))=false:=bK;rw[aD m]at a;clear m;go_wp2_with (go_at_call 109;refine n.out.mono ?_;rintro e C ⟨rfl,rfl⟩);refine⟨⟨j+1,ak,by go_num,a.out⟩,?_⟩;simp[gu];omega
  ·have J:decide ((j:Int)<(N:Int))=false:=bK;have z:j=N:=ak;have D:Hid (∃g,ay wr (f.cO N) xb g/\aX w L wr g):=⟨l,by rw[<-z];exact A.at_,A.fV⟩;clear A z;go_wp2;exact dZ rfl rfl ⟨rfl,D.out⟩
def Fx.nobody(f:Fx)(u:Int):Prop:=∀(s:Nat) k,f.K[s]? =some (some k)->k.no≠u
structure Fx.Is(f:Fx)(u:Int)(s:Nat)(k:Ck):Prop where
 at_:f.K[s]? =some (some k)
 no:k.no=u
 one:∀(t:Nat) a,f.K[t]? =some (some a)->a.no=u->t=s
section
variable {w:an} {f:Fx} {xb:Nat} {L:cQ}
theorem ay.names(h:ay w f xb L):∃no:Nat->Int,∀(s:Nat) l k,L.cs[s]? =some (some l)->f.K[s]? =some (some k)->no l.c=k.no/\w.cell? (aa l.c 0)=some (aj (no l.c)):=by
 obtain⟨no,z⟩:=JM (fun x (n:Int)=>∃(s:Nat) (l:Lc) (k:Ck),f.K[s]? =some (some k)/\L.cs[s]? =some (some l)/\l.c=x/\n=k.no) 0 (by rintro x a b ⟨s,l,k,q,r,t,rfl⟩ ⟨C,F,D,g,u,v,rfl⟩;obtain⟨_,_,_,A⟩:=h.az r;obtain⟨_,_,_,B⟩:=h.az u;have m:=A.1;have o:=B.1;rw[t]at m;rw[v]at o;have:s=C:=ak;subst this;rw[q]at g;cases g;rfl)
 refine⟨no,fun s l k j i=>?_⟩;have e:=z l.c k.no ⟨s,l,k,i,j,rfl,rfl⟩;obtain⟨E,d,y,_⟩:=h.az j;rw[i]at d;cases d;exact⟨e,by rw[e];exact av y.p.box rfl⟩
theorem Iu(h:ay w f xb L)(hf:f.K.length<=65535){u s k l}(m:f.Is u s k)(g:L.cs[s]? =some (some l)):bz 68 #[jp xb,aj u] w (jp l.c):=by
 obtain⟨no,i⟩:=h.names;have hS:sS w xb L.sb f.K.length (L.cs.map fun l=>l.map Lc.c):=⟨av h.box rfl,by simp[h.cs.len],hf,fun j v r=>av h.dA (tH r),⟨_,h.dA⟩⟩;refine(OA xb L.sb f.K.length _ u no w hS fun c q=>?_).mono ?_
 ·obtain⟨t,n,a,rfl⟩:=tK.1 q;obtain⟨d,b,_⟩:=h.az a;exact(i t n d a b).2
 ·rintro e z ⟨rfl,p⟩;refine⟨?_,p⟩;have o:=(i s l k g m.at_).1;have hm:=tK.2 ⟨s,l,g,rfl⟩;cases e:(cu (L.cs.map fun l=>l.map Lc.c)).find? fun c=>decide (no c=u)with
  |none=>
   have:=Gf.1 e l.c hm;simp[o,m.no]at this
  |some c=>
   have x:no c=u:=by grind
   obtain⟨t,n,a,rfl⟩:=tK.1 (UH e);obtain⟨d,b,_⟩:=h.az a;have y:=m.one t d b ((i t n d a b).1.symm.trans x);subst y;rw[g]at a;cases a;rfl
theorem Iv(h:ay w f xb L)(hf:f.K.length<=65535){u}(p:f.nobody u):bz 68 #[jp xb,aj u] w (.pointer none):=by
 obtain⟨no,i⟩:=h.names;have hS:sS w xb L.sb f.K.length (L.cs.map fun l=>l.map Lc.c):=⟨av h.box rfl,by simp[h.cs.len],hf,fun j v n=>av h.dA (tH n),⟨_,h.dA⟩⟩;refine(OA xb L.sb f.K.length _ u no w hS fun c m=>?_).mono ?_
 ·obtain⟨t,g,a,rfl⟩:=tK.1 m;obtain⟨d,b,_⟩:=h.az a;exact(i t g d a b).2
 ·rintro e q ⟨rfl,k⟩;refine⟨?_,k⟩;cases e:(cu (L.cs.map fun l=>l.map Lc.c)).find? fun c=>decide (no c=u)with
  |none=>rfl
  |some c=>
   have o:no c=u:=by grind
   obtain⟨t,g,a,rfl⟩:=tK.1 (UH e);obtain⟨d,b,_⟩:=h.az a;exact absurd ((i t g d a b).1.symm.trans o) (p t d b)
end
def Fx.send(f:Fx)(s:Nat)(k:Ck)(x:ByteArray):Fx×Int:=if k.ph=4 then(f,2)else if 1024<k.aO.size+x.size then(f,6)else(f.at s (k.send x),0)
theorem Za(w f xb L)(h:ay w f xb L)(hf:f.K.length<=65535)(u x)(g:f.nobody u):Calls prog 37 #[jp xb,aj u,.string x] w fun e a=>e=.returned (aj 2)/\ay a f xb L/\aX w L a L:=by
 have c:Hid (Calls prog 68 #[jp xb,aj u] w fun e a=>e=.returned (.pointer none)/\ay a f xb L/\aX w L a L):=by refine(Iv h hf g).mono ?_;rintro e a ⟨rfl,b⟩;exact⟨rfl,h.below b,⟨fun _ _=>rfl,.below b⟩⟩
 go_enter func37,ntmps37;go_wp2_with (go_at_call 68;refine c.out.mono ?_;rintro e i ⟨rfl,d⟩);go_ret;exact⟨rfl,d⟩
theorem OZ(w f xb L)(h:ay w f xb L)(hf:f.K.length<=65535)(u x s k)(o:f.Is u s k)(B:k.aO.size<=1024):Calls prog 37 #[jp xb,aj u,.string x] w fun e a=>e=.returned (aj (f.send s k x).2)/\∃i,ay a (f.send s k x).1 xb i/\aX w L a i:=by
 obtain⟨l,t,m,n⟩:=h.sat o.at_;have v:=aL (Iu h hf o t)
 have y:Hid (∀W,aB w W->Calls prog 74 #[jp l.c,.string x] W fun e a=>e=.returned (aj (f.send s k x).2)/\∃i,ay a (f.send s k x).1 xb i/\aX w L a i):=fun W d=>by
  have j:=h.below d;have q:aX w L W L:=⟨fun _ _=>rfl,.below d⟩
  by_cases g:k.ph=4
  ·have e:f.send s k x=(f,2):=by unfold Fx.send;rw[aM g]
   rw[e];refine(aaY _ _ _ _ _ _ _ _ x W (bM.old m d) g).mono ?_;rintro e a ⟨rfl,rfl⟩;exact⟨rfl,L,j,q⟩
  ·by_cases p:1024<k.aO.size+x.size
   ·have e:f.send s k x=(f,6):=by unfold Fx.send;rw[aD g,aM p]
    rw[e];refine(aaX _ _ _ _ _ _ _ _ x W (bM.old m d) g B p).mono ?_;rintro e a ⟨rfl,rfl⟩;exact⟨rfl,L,j,q⟩
   ·have e:f.send s k x=(f.at s (k.send x),0):=by unfold Fx.send;rw[aD g,aD p]
    rw[e];refine(aaW _ _ _ _ _ _ _ _ x W (bM.old m d) g ak).mono ?_;rintro e a ⟨rfl,z,r⟩;exact⟨rfl,_,j.client t rfl o.at_ r (fun b _ e=>by rw[e];exact n.1) z (fun _ _=>rfl) n,q.trans ⟨fun _ _=>rfl,r.mono fun b _ e=>by rw[e,n.1];omega⟩⟩
 generalize f.send s k x=R at*;generalize l.c=c at*;go_enter func37,ntmps37;go_wp2_with (first|(go_at_call 68;refine v.out.mono ?_;rintro e C ⟨rfl,d⟩)|(go_at_call 74;refine(y.out _ d).mono ?_;rintro e D ⟨rfl,A⟩));go_ret;exact⟨rfl,A⟩
def Ck.much(k:Ck)(n:Int):Nat:=(min n k.out.size).toNat
def Ck.takes(k:Ck)(n:Int):Ck:=if n<0 then k else k.take (k.much n)
def Ck.tg(k:Ck)(n:Int):ByteArray:=if n<0 then⟨#[]⟩else k.out.extract 0 (k.much n)
def zm(n:Int):Int:=if n<0 then 5 else 0
def Fx.take(f:Fx)(s:Nat)(k:Ck)(n:Int):Fx:=(f.at s (k.takes n)).cO f.K.length
theorem YQ{W f xb s L k l}(h:ay W f xb L)(j:f.K[s]? =some (some k))(t:L.cs[s]? =some (some l))(n)(z:k.out.size<=1048576):Calls prog 69 #[jp l.c,aj n] W fun e i=>e=.returned (.tuple #[.string (k.tg n),aj (zm n)])/\∃m,ay i (f.at s (k.takes n)) xb m/\aX W L i m:=by
 obtain⟨C,o,y,a⟩:=h.az t;rw[j]at o;cases o
 by_cases d:n<0
 ·have u:f.at s (k.takes n)=f:=by
   unfold Ck.takes;rw[aM d];unfold Fx.at;rw[ze j]
  rw[u,Ck.tg,zm,aM d,aM d];refine(adM l.c n W (iY d)).mono ?_;rintro e i ⟨rfl,rfl⟩;exact⟨rfl,L,h,aX.refl _ _⟩
 ·rw[Ck.takes,Ck.tg,zm,aD d,aD d,aD d];refine(adL _ _ _ _ _ _ _ _ n (k.much n) W y (by unfold Ck.much;omega) z).mono ?_;rintro e i ⟨rfl,B,w,p,x⟩;have r:∀b,b<W.heap.size->(b=l.c\/some b=l.v.ownBlock)->L.own b=7+2*s:=fun b _ g=>g.elim (fun e=>by rw[e];exact a.1) fun e=>a.2.2.2.2.2 b e.symm;exact⟨rfl,_,h.client (l':=⟨l.c,l.rb,l.mb,l.ch,l.q,B⟩) t rfl j p r w (fun _ _=>rfl) ⟨a.1,a.2.1,a.2.2.1,a.2.2.2.1,a.2.2.2.2.1,fun b g=>a.2.2.2.2.2 b (by rw[<-x];exact g)⟩,⟨fun _ _=>rfl,p.mono fun b g A=>by rw[r b g A];omega⟩⟩
theorem Zb(w f xb L)(h:ay w f xb L)(hf:f.K.length<=65535)(u n s k)(j:f.Is u s k)(z:k.out.size<=1048576)(A:(f.at s (k.takes n)).uE):Calls prog 33 #[jp xb,aj u,aj n] w fun e b=>e=.returned (.tuple #[.string (k.tg n),aj (zm n)])/\∃a,ay b (f.take s k n) xb a/\aX w L b a:=by
 obtain⟨l,m,E,F⟩:=h.sat j.at_;have q:=aL (Iu h hf j m)
 have r:Hid (∀W,aB w W->Calls prog 69 #[jp l.c,aj n] W fun e b=>e=.returned (.tuple #[.string (k.tg n),aj (zm n)])/\∃a,ay b (f.at s (k.takes n)) xb a/\aX w L b a):=fun W g=>by refine(YQ (h.below g) j.at_ m n z).mono ?_;rintro e b ⟨rfl,a,d,i⟩;exact⟨rfl,a,d,aX.trans ⟨fun _ _=>rfl,.below g⟩ i⟩
 have p:Hid (∀W,(∃a,ay W (f.at s (k.takes n)) xb a/\aX w L W a)->Calls prog 64 #[jp xb] W fun e b=>e=.returned (.tuple #[])/\∃a,ay b (f.take s k n) xb a/\aX w L b a):=fun W ⟨t,b1,v⟩=>by
  have e:(f.at s (k.takes n)).K.length=f.K.length:=by simp[Fx.at]
  refine(OY W _ xb t b1 A (by rw[e];exact hf)).mono ?_;rintro D b ⟨rfl,a,d,i⟩;rw[e]at d;exact⟨rfl,a,d,v.trans i⟩
 generalize f.take s k n=R at*;generalize f.at s (k.takes n)=R1 at*;generalize k.tg n=B at*;generalize zm n=C at*;generalize l.c=c at*;go_enter func33,ntmps33;go_wp2_with (first|(go_at_call 68;refine q.out.mono ?_;rintro e G ⟨rfl,g⟩)|(go_at_call 69;refine(r.out _ g).mono ?_;rintro e H ⟨rfl,x⟩;have o:=aL x)|(go_at_call 64;refine(p.out _ o.out).mono ?_;rintro e I ⟨rfl,y⟩))
 go_ret2
 exact⟨rfl,y⟩
theorem Zd(w f xb L)(h:ay w f xb L)(hf:f.K.length<=65535)(u n)(g:f.nobody u):Calls prog 33 #[jp xb,aj u,aj n] w fun e a=>e=.returned (.tuple #[.string ⟨#[]⟩,aj 2])/\ay a f xb L/\aX w L a L:=by
 have c:Hid (Calls prog 68 #[jp xb,aj u] w fun e a=>e=.returned (.pointer none)/\ay a f xb L/\aX w L a L):=by refine(Iv h hf g).mono ?_;rintro e a ⟨rfl,b⟩;exact⟨rfl,h.below b,⟨fun _ _=>rfl,.below b⟩⟩
 go_enter func33,ntmps33;go_wp2_with (go_at_call 68;refine c.out.mono ?_;rintro e i ⟨rfl,d⟩)
 go_ret2
 exact⟨rfl,d⟩
end
section
attribute [local go_sem ↓] Go.wp_at_zero Go.wp_at_succ
attribute [local go_sem] bq bg
open Go.RowKit
structure afy where
 rb:Nat->Nat
 mb:Nat->Nat
 ch:Nat->Nat
 k:Nat->Cl
end
section
attribute [local go_sem ↓] Go.wp_at_zero Go.wp_at_succ
open Go.RowKit
theorem WZ{P f fn c}{a:Act}{w:an}{R:Ending->an->Prop}{n:Nat}{b:Frame}(hf:P.funcs[f]? =some fn)(r:b.fn=f)(s:b.kind=.normal)(p:b.roundOf=none)(h:c.wpIn jQ n P (bodyPostM jQ n P fn R) a w)(cs):
  ∃e d g,R e d/\Comes P (lone (b.at a [.code c]) cs w) (lone g cs d) e/\g.fn=f/\g.leaving P d e:=by
 have hr:jQ.room (cs.length+1+n):=room_wide _;obtain⟨e,j,d,k,o⟩:=h b [] cs p trivial hr;have v:b.atR a [.code c]=b.at a [.code c]:=Frame.atR_of_none p _ _;rw[v]at o
 have fin:∀(m:FrameMode) (i:List Item),LeavesInM jQ n P fn j.tmps R j.defers m d->StepsIn (Machine.fenced P jQ) P (lone (b.at a [.code c]) cs w) (lone {b.atR j i with mode:=m} cs d)->
   ∃e d g,R e d/\Comes P (lone (b.at a [.code c]) cs w) (lone g cs d) e/\g.fn=f/\g.leaving P d e:=fun m i y A=>by
  obtain⟨u,C,g,hR,B,x,z⟩:=leaves_stepsInM j.defers m d {b.atR j i with mode:=m} cs rfl rfl rfl (by rw[<-r]at hf;exact hf) s trivial hr y;exact⟨u,C,g,hR,comesIn_wide.1 (ComesIn.of_steps A B),x.trans r,z⟩
 cases e with
 |normal=>exact fin .returning [] k (StepsIn.trans o (.one (fenced_calm (fr:=b.atR j []) trivial hr rfl) (stepR_end p)))
 |ret=>
  obtain⟨i,q⟩:=o.1 p;exact fin .returning i k q
 |panic t=>
  obtain⟨i,q⟩:=o;exact fin (.panicking t) i k q
 |exit id=>exact k.elim
 |goto l=>exact k.elim
 |outgrown=>exact⟨.outgrown,d,{b with fn:=f},k,comesIn_wide.1 (o.resolve_left (by rw[s];simp)),rfl,trivial⟩
end
section
attribute [local go_sem ↓] Go.wp_at_zero Go.wp_at_succ
attribute [local go_sem] bq bg
open Go.Proofs.Tryz
open Go.RowKit
abbrev stC:Array au:=#[aj 0,aj 0,aj 0,aj 0,aj 0,aj 0,aj 0,aj 0]
abbrev Vx(W:an)(b:Nat):Prop:=W.heap[b]? =some (.cells stC 68 (0,0))
theorem SU{W b}(h:Vx W b):W.cell? (aa b 0)=some (aj 0)/\W.cell? (aa b 1)=some (aj 0)/\W.cell? (aa b 2)=some (aj 0)/\W.cell? (aa b 3)=some (aj 0)/\W.cell? (aa b 4)=some (aj 0)/\W.cell? (aa b 5)=some (aj 0)/\W.cell? (aa b 6)=some (aj 0)/\W.cell? (aa b 7)=some (aj 0):=
 ⟨av h rfl,av h rfl,av h rfl,av h rfl,av h rfl,av h rfl,av h rfl,av h rfl⟩
theorem Wj{w W}(h:aB w W)(v0 v1 v2 v3 v4 v5 v6 v7):aB w ((((((((W.setCell (aa w.heap.size 0) v0).setCell (aa w.heap.size 1) v1).setCell (aa w.heap.size 2) v2).setCell (aa w.heap.size 3) v3).setCell (aa w.heap.size 4) v4).setCell (aa w.heap.size 5) v5).setCell (aa w.heap.size 6) v6).setCell (aa w.heap.size 7) v7):=
 (((((((h.setCell (aV _) v0).setCell (aV _) v1).setCell (aV _) v2).setCell (aV _) v3).setCell (aV _) v4).setCell (aV _) v5).setCell (aV _) v6).setCell (aV _) v7
theorem afF(n:Nat)(d:n<=65535):∃M:Array au,∀W:an,(BM 158 (aj (n:Int)) (aj (n:Int))).run prog W=.ok (.slice (some (aa W.heap.size 0)) n n) (W.alloc (.cells M 5)):=by obtain⟨a,b,c,e,f⟩:=info_parts infoByte;refine⟨madeCells (Value.int .u8 0).cells (((n:Nat):Int).toNat*a.size),fun W=>?_⟩;simpa using(run_make W 158 5 a (.int .u8 0) underlying158 b c .i64 .i64 (n:Int) (n:Int) ak ak (by grind) ak)
theorem l7:(prog.info? 119).map (fun i=>(i.zero,i.size,i.bytes))=some (some (.pointer none),1,8):=aI
theorem E5(N):madeCells (Ab none).cells N=ni (lZ N none):=by apply xz;rw[show(Ab none).cells=#[.pointer none] from rfl,toList_madeCells_one];simp[ni,jM]
theorem G3(N:Nat)(e:N<=65535)(W:an):(BM 103 (aj (N:Int)) (aj (N:Int))).run prog W=.ok (.slice (some (aa W.heap.size 0)) N N) (W.alloc (.cells (ni (lZ N none)) 119)):=by obtain⟨d,a,b,c,f⟩:=info_parts l7;have h:=run_make W 103 119 d (.pointer none) underlying103 a b .i64 .i64 (N:Int) (N:Int) ak ak (by grind) ak;rw[c]at h;simp at h;rw[E5]at h;exact h
end
section
attribute [local go_sem ↓] Go.wp_at_zero Go.wp_at_succ
attribute [local go_sem] bq bg
open Go.Conc Go.RowKit
open Go.Proofs.Tryz
theorem YO(w f xb L)(h:ay w f xb L)(hf:f.K.length<=65535)(u)(c:f.nobody u):
  bz 34 #[jp xb,aj u] w (.tuple #[.agg stC,aj 2]):=by
 have b:Hid (bz 68 #[jp xb,aj u] (w.alloc (.cells stC 68)) (.pointer none)):=Iv (h.below (aR)) hf c;go_enter func34,ntmps34;go_wp2_with (go_at_call 68;refine b.out.mono ?_;rintro e q ⟨rfl,a⟩;have hS:=(a.block _ aq).trans (bW w _);obtain⟨d,g,k,l,m,n,o,p⟩:=SU hS;have s:∀j,q.frozen? (aa w.heap.size j)=false:=(fun j=>aS hS j);have r:=(fun(i:Nat) (v:au) (hv:stC[i]? =some v)=>abg hS hv));exact fX (by simp[results,results34,go_sem,d,g,k,l,m,n,o,p]) rfl ⟨rfl,aR.trans (a.mono aq)⟩
theorem YN(w f xb L)(h:ay w f xb L)(hf:f.K.length<=65535)(u s k)(g:f.Is u s k):
  bz 34 #[jp xb,aj u] w (.tuple #[.agg (stG k),aj 0]):=by
 have b:=h.below ((Below.refl _ w).alloc (aV _) (.cells stC 68));obtain⟨l,p,n,_⟩:=b.sat g.at_;have i:=aL (Iu b hf g p);have m:Hid (∀W,aB (w.alloc (.cells stC 68)) W->bz 70 #[jp l.c] W (.agg (stG k))):=fun W o=>adz _ _ _ _ _ _ _ _ W (bM.old n o);generalize l.c=c at*;go_enter func34,ntmps34
 go_wp2_with (first
  |(go_at_call 68;refine i.out.mono ?_;rintro e D ⟨rfl,a⟩)
  |(go_at_call 70;refine(m.out _ a).mono ?_;rintro e B ⟨rfl,d⟩;have hS:=(bD d ((a.block _ aq).trans (bW w _)));obtain⟨q,r,t,v,x,y,z,A⟩:=SU hS;have C:∀j,B.frozen? ⟨w.heap.size,j,none⟩=false:=(fun j=>aS hS j)))
 exact fX (by simp[results,results34,go_sem,q,r,t,v,x,y,z,A]) rfl ⟨rfl,Wj (aR.trans ((a.mono aq).trans (d.mono (by have:=a.size;simp at this;omega)))) _ _ _ _ _ _ _ _⟩
section
variable {W W1:an} {f:Fx} {xb j:Nat} {L:cQ} {k:Ck} {l:Lc}
theorem ay.enter(h:ay W f xb L)(m:aB W W1)(w:f.K[j]? =some none)(z:l.At W1 f.g k)(y:l.gw (W.heap.size<=·)):
  ay (W1.setCell (aa L.sb j) (jp l.c)) {f with K:=f.K.set j (some k)} xb {L with cs:=L.cs.set j (some l),own:=fP L.own W.heap.size (7+2*j)}/\aG (fun b=>L.own b≠0) W (W1.setCell (aa L.sb j) (jp l.c)):=by
 have F:=(aP.1 h.dA).1;have a:eH W (W1.setCell (aa L.sb j) (jp l.c)) L.own (fP L.own W.heap.size (7+2*j)) fun t=>t=2:=⟨fun b d B=>(bH fun e=>B (by rw[e];exact h.gT)).trans (m.block b d),fun b d=>jj d⟩;have b1:=a.blk h.box h.dX ak;have p:=a.row h.bL h.kg ak;have q:=a.row h.log h.lu ak;have r:=a.ey h.ey h.iw ak;have C:∀b,W.heap.size<=b->b≠L.sb:=fun b d e=>by omega
 have A:l.At (W1.setCell (aa L.sb j) (jp l.c)) f.g k:=bM.keep z (O:=fun b=>W.heap.size<=b) y fun b d _=>bH (C b d)
 have D:L.cs[j]? =some none:=by
  have E:j<L.cs.length:=by rw[h.cs.len];exact(ed.1 w).1
  have i:L.cs[j]? =some L.cs[j]:=dN E;have v:=h.cs.at_ _ _ _ w i;cases u:L.cs[j]with
  |none=>rw[u]at i;exact i
  |some l=>rw[u]at v;exact absurd v (by simp[nN])
 refine⟨⟨?_,b1.2,?_,(jj F).trans h.gT,a.Du h.cs (fun x _=>by omega) ⟨A,y.mono fun b d=>vk d⟩,a.js h.js (fun s lc o=>⟨lc,?_,rfl⟩) (fun n=>by omega),a.nS h.fl ak,p.1,p.2,q.1,q.2,r.1,r.2⟩,?_⟩
 ·have e:=b1.1;simpa[kr]using e
 ·have e:=bV (bD m h.dA) j (jM (some l.c));rw[RP]at e;show wu _ L.sb ((L.cs.set j (some l)).map fun l=>l.map Lc.c);rw[List.map_set];exact e
 ·have:s≠j:=fun e=>by rw[e,D]at o;cases o
  rw[BS (cW this)];exact o
 ·exact(aG.below m).trans ((aG.refl _ _).mono (fun _ _ h=>h) |>.trans (by exact⟨rfl,aq,fun b d G=>bH fun e=>G (by rw[e,h.gT];omega)⟩))
theorem WI{W f xb L}(h:ay W f xb L):ay (W.setCell (aa xb 10) (aj (f.dw+1))) {f with dw:=f.dw+1} xb L:=
 h.put 10 _ {f with dw:=f.dw+1} (by simp[kr]) rfl rfl rfl rfl rfl ⟨rfl,rfl,rfl⟩
end
theorem ay.Eo{W f xb L}(h:ay W f xb L)(i:Nat):(L.cs.map fun l=>l.map Lc.c)[i]? =some none↔f.K[i]? =some none:=by
 rw[kO];constructor
 ·intro e;cases g:L.cs[i]? with
  |none=>rw[g]at e;cases e
  |some o=>
   rw[g]at e;cases o with
   |some l=>simp at e
   |none=>
    have j:i<f.K.length:=by rw[<-h.cs.len];exact(ed.1 g).1
    have a:=dN j;have d:=h.cs.at_ _ _ _ a g;cases b:f.K[i]with
    |none=>rw[b]at a;exact a
    |some k=>rw[b]at d;exact absurd d (by simp[nN])
 ·intro e;have j:i<L.cs.length:=by rw[h.cs.len];exact(ed.1 e).1
  have a:=dN j;have d:=h.cs.at_ _ _ _ e a;cases b:L.cs[i]with
  |none=>rw[b]at a;rw[a];rfl
  |some l=>rw[b]at d;exact absurd d (by simp[nN])
def Fx.vu(f:Fx)(j:Nat)(wt:Int):Fx:={f with K:=f.K.set j (some (Ck.fresh f.dw wt f.g.bu)),dw:=f.dw+1}
theorem YP(w:an)(f:Fx)(xb:Nat)(L:cQ)(h:ay w f xb L)(hf:f.K.length<=65535)(y:f.stop=false)(wt:Int)(P:iD wt 1 4=true)(j:Nat)(k:f.K[j]? =some none)(x:∀i,i<j->f.K[i]? ≠some none)(af:0<=f.dw/\f.dw<=281474976710656):
  Calls prog 36 #[jp xb,aj wt] w fun e a=>e=.returned (.tuple #[aj f.dw,aj 0])/\∃m,ay a (f.vu j wt) xb m/\aX w L a m:=by
 have ah:j<f.K.length:=(ed.1 k).1;have ak:xb≠L.sb:=fun e=>by have:=h.gT;rw[<-e,h.dX]at this;omega
 have Y:w.cell? (aa xb 14)=some (.bool false):=by rw[<-y];exact av h.box rfl
 have D:=aE w xb 9 (.slice (some (aa L.sb 0)) f.K.length f.K.length) h.box;have X:=aE w xb 10 (aj f.dw) h.box
 have A:Hid (fE 72 #[.slice (some (aa L.sb 0)) f.K.length f.K.length,.pointer none] w (aj j)):=by
  refine(j8 L.sb f.K.length _ w h.dA (by simp[h.cs.len]) hf).mono ?_;rintro e a ⟨N,⟨r,u,p⟩|⟨u,p⟩⟩
  ·have:r=j:=by
    rcases US r j with h'|h'|h'
    ·exact absurd ((h.Eo r).1 p.1) (x r h')
    ·exact h'
    ·exact absurd ((h.Eo j).2 k) (p.2 j h')
   exact⟨by rw[u,this],N⟩
  ·exact absurd ((h.Eo j).2 k) (p j)
 have t:Hid (FeS xb L.sb f.K.length f.g.sz f.g.cl f.g.qu f.g.mx f.g.qn f.g.rt f.g.bu f.g.wk f.g.ou w):=⟨⟨av h.box rfl,av h.box rfl,av h.box rfl,av h.box rfl,av h.box rfl,av h.box rfl,av h.box rfl,av h.box rfl,av h.box rfl⟩,D⟩
 have C:Hid (∀W,aB w W->Calls prog 73 #[cfV f.g,aj f.dw,aj wt] W fun e a=>∃c,e=.returned (jp c)/\(∃m,ay ((a.setCell (aa L.sb j) (jp c)).setCell (aa xb 10) (aj (f.dw+1))) (f.vu j wt) xb m/\aX w L ((a.setCell (aa L.sb j) (jp c)).setCell (aa xb 10) (aj (f.dw+1))) m)/\FeS xb L.sb f.K.length f.g.sz f.g.cl f.g.qu f.g.mx f.g.qn f.g.rt f.g.bu f.g.wk f.g.ou a/\a.cell? (aa L.sb j)=some (.pointer none)/\a.frozen? (aa L.sb j)=false/\(a.setCell (aa L.sb j) (jp c)).cell? (aa xb 10)=some (aj f.dw)/\(a.setCell (aa L.sb j) (jp c)).frozen? (aa xb 10)=false):=fun W v=>by refine(I2 f.g f.dw wt W).mono ?_;rintro e a ⟨c,T,R,E,rfl,O,d,H,I,J,M⟩;have o:=v.size;have q:aB w a:=v.trans (d.mono o);obtain⟨s,F⟩:=h.enter (l:=⟨c,T,R,E,.slice none 0 0,.slice none 0 0⟩) q k O ⟨cS o H,cS o I,cS o J,cS o M,fun b d=>by simp[uk]at d,fun b d=>by simp[uk]at d⟩;have G:=WI s;refine⟨c,rfl,⟨_,G,⟨fun b d=>jj d,F.set (by show L.own xb≠0;rw[h.dX];omega) _⟩⟩,t.out.later q,?_,aS (bD q h.dA) j,av s.box rfl,aS s.box 10⟩;exact bp q (av h.dA (tH ((h.Eo j).2 k)))
 generalize f.vu j wt=V at*;clear h k x y;go_enter func36,ntmps36
 go_upto_region 9 with(first|(go_at_call 71;refine(zy wt 1 4 _).mono ?_;rw[P];rintro e U ⟨rfl,rfl⟩)|(go_at_call 72;refine A.out.mono ?_;rintro e U ⟨rfl,rfl⟩))
 refine gW ?_;refine dh (S:=FeS xb L.sb f.K.length f.g.sz f.g.cl f.g.qu f.g.mx f.g.qn f.g.rt f.g.bu f.g.wk f.g.ou) 13 aI t.out ?_;intro hS;refine gk 0 ?_;refine gk 1 ?_;refine gk 2 ?_;refine gs 3 ?_;refine gk 4 ?_;refine gk 5 ?_;refine gk 6 ?_;refine gk 7 ?_;refine gs 8 ?_;refine gk 9 ?_;refine gk 10 ?_;refine gr 11 fun K n=>?_;go_simp;go_at_call 73;refine(C.out _ (ig (Below.refl _ _) _)).mono ?_;rintro e w2 ⟨c,rfl,z,Q,k3,k4,k5,k6⟩;have B:=aL z;clear z;refine n.out _ _ Q (fun Z=>?_);clear n K;refine gk 12 ?_;refine gz fun K n=>?_;go_simp;refine n.out _ _ ?_;clear n K;refine dJ aI ?_ _;refine gp ?_;go_wp2_with fail
 go_ret2
 exact⟨rfl,B.out⟩
abbrev gZ(e:En):Array au:=#[aj e.no,aj e.ck,aj e.kd,aj e.fl,aj e.of,aj e.ln,aj e.er]
def mJ(B:Array UInt8)(e:En):ByteArray:=if e.kd=0/\e.er=0 then⟨B.extract e.of.toNat (e.of.toNat+e.ln.toNat)⟩else⟨#[]⟩
theorem adY(d)(x:En)(B w)(h:¬(x.kd=0/\x.er=0)):bz 164 #[jp d,.agg (gZ x)] w (.string (mJ B x)):=by
 have b:mJ B x=⟨#[]⟩:=aD h;rw[b];have a:(w.alloc (.cells (gZ x) 96)).heap[w.heap.size]? =some (.cells (gZ x) 96 (0,0)):=bW w _;have g:=av a (i:=2) (v:=aj x.kd) rfl;have j:=av a (i:=6) (v:=aj x.er) rfl;have c:Hid (aB w (w.alloc (.cells (gZ x) 96))):=aR
 by_cases h0:x.kd=0
 ·have f:¬x.er=0:=fun e=>h ⟨h0,e⟩;have d1:(x.kd !=0)=false:=by simp[h0]
  have d2:(x.er !=0)=true:=by simp[f]
  clear h h0 f a b;go_enter func164,ntmps164;go_wp2;go_ret;exact⟨rfl,c.out⟩
 ·have d1:(x.kd !=0)=true:=by simp[h0]
  clear h h0 a b;go_enter func164,ntmps164;go_wp2;go_ret;exact⟨rfl,c.out⟩
theorem aeb(d bb db n cv)(x:En)(B D)(C:List (Nat×List UInt8))(w)(a:cZ w d bb db cv n B D C)(h:x.kd=0/\x.er=0)(h0:0<=x.of)(k:0<=x.ln)(l:x.of+x.ln<=n):bz 164 #[jp d,.agg (gZ x)] w (.string (mJ B x)):=by
 have f:mJ B x=⟨B.extract x.of.toNat (x.of.toNat+x.ln.toNat)⟩:=aM h;rw[f];have c:(w.alloc (.cells (gZ x) 96)).heap[w.heap.size]? =some (.cells (gZ x) 96 (0,0)):=bW w _;have p:=av c (i:=2) (v:=aj x.kd) rfl;have q:=av c (i:=4) (v:=aj x.of) rfl;have r:=av c (i:=5) (v:=aj x.ln) rfl;have s:=av c (i:=6) (v:=aj x.er) rfl;have b:aB w (w.alloc (.cells (gZ x) 96)):=aR;have g:=aL b;have d1:(x.kd !=0)=false:=by simp[h.1]
 have d2:(x.er !=0)=false:=by simp[h.2]
 have j:Hid (Calls prog 54 #[jp d,aj x.of,aj x.ln] (w.alloc (.cells (gZ x) 96)) fun e o=>e=.returned (.string ⟨B.extract x.of.toNat (x.of.toNat+x.ln.toNat)⟩)/\o=w.alloc (.cells (gZ x) 96)):=by have m:cZ (w.alloc (.cells (gZ x) 96)) d bb db cv n B D C:=⟨bD b a.box,bD b a.bytes,bD b a.fL,vq a.cache b,a.sizes,a.fits,a.apart,a.small⟩;have:=Oa d bb db n x.of.toNat x.ln.toNat cv B D C _ m ak;rw[show((x.of.toNat:Nat):Int)=x.of by omega,show((x.ln.toNat:Nat):Int)=x.ln by omega]at this;exact this
 clear h h0 k l c f b a;go_enter func164,ntmps164;go_wp2_with (go_at_call 54;refine j.out.mono ?_;rintro e t ⟨rfl,rfl⟩);go_ret;exact⟨rfl,g.out⟩
theorem YR(w f xb L)(h:ay w f xb L)(c:f.g.sz=f.B.size):Calls prog 20 #[jp xb] w fun e a=>e=.returned (.string ⟨f.B⟩)/\∃m,a=w.drewN m:=by
 have j:=aE w xb 19 (jp L.d) h.box;have i:w.cell? (aa xb 0)=some (aj f.B.size):=by rw[<-c];exact av h.box rfl
 have b:Hid (∀n,Calls prog 54 #[jp L.d,aj 0,aj f.B.size] (w.drewN n) fun e a=>e=.returned (.string ⟨f.B⟩)/\a=w.drewN n):=fun n=>by
  have:=Oa L.d L.bb L.db f.B.size 0 f.B.size L.cv f.B f.D f.C (w.drewN n) (h.drewN n).ey ak;have e:f.B.extract 0 (0+f.B.size)=f.B:=by rw[fo];simp
  rw[e]at this;exact this
 go_enter func20,ntmps20;go_wp2
 go_quiet ((go_at_call 54;exact BH (b.out _)))
 go_wp2;go_ret;exact⟨rfl,_,rfl⟩
end
section
open Go.Conc Go.RowKit
open Go.Proofs.Tryz
section
variable {W:an} {f:Fx} {xb:Nat} {L:cQ} {b:Jb} {r:List Jb}
theorem ay.top(h:ay W f xb L)(hf:f.fl=b::r)(q:∀x∈r,dF b.key x.key=true):∃a js,L.js=a::js/\L.hf 0=a.j/\eC W L.own L.cs b a:=by
 have d:=h.js.len;rw[hf]at d;cases e:L.js with
 |nil=>rw[e]at d;simp at d
 |cons a js=>
  have h0:L.js[0]? =some a:=by rw[e];rfl
  have g:f.fl[0]? =some b:=by rw[hf];rfl
  refine⟨a,js,rfl,?_,h.js.at_ 0 b a g h0⟩;obtain⟨u,t,n⟩:=h.fl.all 0 a h0;have p:0<f.fl.length:=by rw[hf];simp
  obtain⟨i,l,c,k⟩:=h.fl.aO 0 p;cases i with
  |zero=>rw[h0]at c;cases c;exact k
  |succ i=>
   exfalso;have o:i+1<f.fl.length:=by grind
   have s:f.fl[i+1]? =some f.fl[i+1]:=dN o;have hm:f.fl[i+1]∈r:=by grind
   have m:=h.fl.heap.top u t;simp only[k,n,h.fl.keys _ _ _ s c,h.fl.keys _ _ _ g h0]at m;exact(CY _ _).1 (q _ hm) m
theorem YY(h:ay W f xb L)(hf:f.fl=b::r)(hs:∀x∈r,dF b.key x.key=true)(ho:∀x∈r,x.order≠b.order)(hm:r.length<1048576):
  Calls prog 105 #[.pointer (some (aa xb 18))] W fun e A=>∃p,e=.returned (.tuple #[jp (L.hf 0),.bool true])/\p.j=L.hf 0/\∃B,ay A {f with fl:=r} xb B/\aX W L A B/\eC A B.own B.cs b p:=by
 obtain⟨p,js,J,I,X⟩:=h.top hf hs;have hn:f.fl.length=r.length+1:=by rw[hf];simp
 have ah:=h.fl.row;have PM:=h.fl.heap;have G:=h.fl.aO;have Z:=h.fl.all;have w:=h.fl.one;rw[hn]at ah PM G Z w;have j0:L.js[0]? =some p:=by rw[J];rfl
 have H:∀i:Nat,L.js[i+1]? =js[i]? :=fun i=>by rw[J];rfl
 have K:∀i:Nat,f.fl[i+1]? =r[i]? :=fun i=>by rw[hf];rfl
 have aQ:js.length=r.length:=by have:=h.js.len;rw[J,hf]at this;simpa using this
 have old:∀(i:Nat) l,L.js[i]? =some l->∃x,f.fl[i]? =some x/\(∃lc,dU W l.j lc l.rv x.rs x.ft x.due x.order)/\L.own l.j=8+2*x.order/\L.key l.j=x.key:=fun i l m=>by
  have hi:i<f.fl.length:=by rw[<-h.js.len];exact(ed.1 m).1
  have d:=dN hi;obtain⟨c,g,k,E⟩:=h.js.at_ i _ _ d m;exact⟨_,d,⟨_,k⟩,E.1,h.fl.keys i _ _ d m⟩
 have bU:∀(i:Nat) l,L.js[i+1]? =some l->l.j≠p.j:=fun i l m e=>by obtain⟨x,g,_,E,_⟩:=old _ l m;obtain⟨_,_,_,M⟩:=X;have F:=M.1;rw[<-e]at F;rw[K]at g;exact ho x (iG g) ak
 refine(U2 xb 18 r.length L.hv L.hf L.key _ _ W h.box rfl cq ah hm (fun x d=>?_) (fun x d e=>?_) PM).mono ?_
 ·obtain⟨i,l,g,k⟩:=G x d;obtain⟨y,E,⟨c,M⟩,F,h7⟩:=old i l g;rw[k,h7];refine⟨M.key,fun e=>?_⟩;have:=h.fl.own l.j e.symm;omega
 ·obtain⟨i,l,g,k⟩:=G x d;obtain⟨y,E,_,F,_⟩:=old i l g;rw[<-k,e,h.dX]at F;omega
 rintro e A ⟨rfl,v',q,g1,g2,D,g4,V,g6⟩;have Y:∀x,x<W.heap.size->(x=xb\/some x=L.hv.ownBlock)->L.own x=1\/L.own x=3:=fun x _ d=>d.elim (fun e=>.inl (by rw[e];exact h.dX)) fun e=>.inr (h.fl.own x e.symm);have a:eH W A L.own L.own fun t=>t=1\/t=3:=⟨fun x d yM=>V.block x d fun O=>yM (Y x d O),fun x d=>rfl⟩;have R:=a.blk h.dA h.gT ak;have S:=a.row h.bL h.kg ak;have T:=a.row h.log h.lu ak;have U:=a.ey h.ey h.iw ak
 have aq:∀z,0<z->z<r.length+1->∃(i:Nat) (l:Lj),js[i]? =some l/\L.hf z=l.j:=fun z h0 Q=>by
  obtain⟨i,l,g,k⟩:=G z Q;cases i with
  |zero=>
   rw[j0]at g;cases g;have:=w z 0 Q ak (k.trans I.symm);omega
  |succ i=>rw[H]at g;exact⟨i,l,g,k⟩
 refine⟨p,rfl,I.symm,{L with js:=js,hv:=v',hf:=q},⟨g1,h.dX,R.1,R.2,a.cs h.cs (fun s=>by omega),⟨aQ,fun i x l d m=>?_⟩,⟨g2,fun x d=>h.fl.own x (by rw[<-g6];exact d),fun x d=>?_,fun i l m=>?_,fun x y d P e=>?_,fun i x l d m=>?_,g4⟩,S.1,S.2,T.1,T.2,U.1,U.2⟩,⟨fun _ _=>rfl,V.mono fun x d O=>by rcases Y x d O with e|e<;>rw[e]<;>omega⟩,X.aside a (fun c N=>⟨c,N,rfl⟩) ak⟩
 ·exact(h.js.at_ (i+1) x l (by rw[K];exact d) (by rw[H];exact m)).aside a (fun c N=>⟨c,N,rfl⟩) ak
 ·obtain⟨y,P,e⟩:=D.aO x d
  by_cases aj:y=0
  ·obtain⟨i,l,g,k⟩:=aq r.length ak ak;exact⟨i,l,g,by show q x=l.j;rw[e];simp[down,aj,k]⟩
  ·obtain⟨i,l,g,k⟩:=aq y ak (Cd P);exact⟨i,l,g,by show q x=l.j;rw[e];simp[down,aj,k]⟩
 ·have af:L.js[i+1]? =some l:=by rw[H];exact m
  obtain⟨z,Q,n⟩:=Z (i+1) l af;have qy:z≠0:=fun e=>bU i l af (by rw[<-n,e,I])
  by_cases aI:z=r.length
  ·obtain⟨x,d,e⟩:=D.all 0 ak;exact⟨x,d,by show q x=l.j;rw[e];simp[down,<-aI,n]⟩
  ·obtain⟨x,d,e⟩:=D.all z ak;exact⟨x,d,by show q x=l.j;rw[e];simp[down,qy,n]⟩
 ·refine D.one (fun u v hu hv o=>?_) x y d P e
  by_cases n:u=0
  ·by_cases C:v=0
   ·omega
   ·simp[down,n,C]at o;have:=w r.length v ak ak o;omega
  ·by_cases C:v=0
   ·simp[down,n,C]at o;have:=w u r.length ak ak o;omega
   ·simp[down,n,C]at o;exact w u v ak ak o
 ·exact h.fl.keys (i+1) x l (by rw[K];exact d) (by rw[H];exact m)
end
end
section
attribute [local go_sem ↓] Go.wp_at_zero Go.wp_at_succ
attribute [local go_sem] bq bg
open Go.Conc Go.RowKit
open Go.Proofs.Tryz
theorem Ze{W f xb L b r}(h:ay W f xb L)(hf:f.fl=b::r)(k:∀x∈r,dF b.key x.key=true)(now):
  ∃a,a.j=L.hf 0/\eC W L.own L.cs b a/\(fE 103 #[.pointer (some (aa xb 18))] W (.tuple #[jp a.j,.bool true]))/\fE 104 #[jp a.j,aj now] W (.bool (decide (b.due<=now))):=by
 obtain⟨a,js,_,d,e⟩:=h.top hf k;have i:=e;obtain⟨lc,_,g,_⟩:=e;refine⟨a,d.symm,i,?_,n9 a.j lc.c a.rv b.rs b.ft b.due b.order now W g⟩;have:=Qb xb 18 f.fl.length L.hv L.hf W h.DO (by rw[hf];simp);rw[d]at this;exact this
def pz(no:Int)(r:Rq)(a:Bool):En:=⟨no,r.m.ck,r.m.kd,r.m.fl,r.m.of,r.m.ln,if a then 5 else 0⟩
abbrev EnS(j c b:Nat)(no:Int)(r:Rq)(W:an):Prop:=W.cell? (aa j 0)=some (jp c)/\bQ W b r/\W.cell? (aa c 0)=some (aj no)
theorem EnS.old{j c b no r W W'}(h:EnS j c b no r W)(a:aB W W'):EnS j c b no r W':=⟨bp a h.1,h.2.1.old a,bp a h.2.2⟩
abbrev lQ:Array au:=#[aj 0,aj 0,aj 0,aj 0,aj 0,aj 0,aj 0]
theorem XV(j c rv rs)(ft:Ft)(due order no r w)(h:dU w j c rv rs ft due order)(hc:w.cell? (aa c 0)=some (aj no)):
  bz 162 #[jp j,.agg (aC r)] w (.agg (gZ (pz no r ft.cM))):=by
 have l:aB w ((w.alloc (.cells (aC r) 134)).alloc (.cells lQ 96)):=aR.alloc aq _;have A:((w.alloc (.cells (aC r) 134)).alloc (.cells lQ 96)).heap[w.heap.size]? =some (.cells (aC r) 134 (0,0)):=Bq w _ _;have B:((w.alloc (.cells (aC r) 134)).alloc (.cells lQ 96)).heap[w.heap.size+1]? =some (.cells lQ 96 (0,0)):=Bp w _ _;have u:=aE w j 0 (jp c) h.box;have y:=aE w j 3 (.bool ft.cM) h.box;have g:Hid (EnS j c w.heap.size no r ((w.alloc (.cells (aC r) 134)).alloc (.cells lQ 96))/\aB w ((w.alloc (.cells (aC r) 134)).alloc (.cells lQ 96))/\((w.alloc (.cells (aC r) 134)).alloc (.cells lQ 96)).heap[w.heap.size+1]? =some (.cells lQ 96 (0,0))/\((w.alloc (.cells (aC r) 134)).alloc (.cells lQ 96)).cell? (aa j 3)=some (.bool ft.cM)):=⟨⟨bp l u,bQ.of A,bp l hc⟩,l,B,bp l y⟩;clear h hc l A B u y;go_enter func162,ntmps162
 go_upto_region 1 with fail
 show Code.wp _ _ _ _ ((w.alloc (.cells (aC r) 134)).alloc (.cells lQ 96));generalize (w.alloc (.cells (aC r) 134)).alloc (.cells lQ 96)=b at*
 go_cut [4,5] (fun p4 p5 J=>p4=aF (w.heap.size+1)/\p5=aF b.heap.size/\J.heap[b.heap.size]? =some (.cells (gZ (pz no r false)) 96 (0,0))/\aB b J)
 case first=>
  refine dR (S:=EnS j c w.heap.size no r) g.out.1 fun s=>?_;refine tk 0 ?_;refine tk 1 ?_;refine tk 2 ?_;refine tk 3 ?_;refine tk 5 ?_;refine tk 6 ?_;refine tk 7 ?_;refine tk 8 ?_;refine tk 9 ?_;refine tk 10 ?_;refine tk 11 ?_;refine tk 12 ?_;refine tk 13 ?_;refine tk 14 ?_;refine tk 15 ?_;refine tk 16 ?_;refine tk 17 ?_;refine tk 18 ?_;refine tk 19 ?_;have k:Hid (∀x,EnS j c w.heap.size no r (b.alloc x).drew/\(b.alloc x).drew.heap[b.heap.size]? =some x/\aB b (b.alloc x).drew):=fun x=>⟨g.out.1.old ((Below.refl _ b).alloc (aV _) x).drew,bW b _,((Below.refl _ b).alloc (aV _) x).drew⟩;refine aH [4,21] (.cons rfl (fun K a=>?_) ?_)
  ·(skip)
   go_simp;go_at_call 112;refine(Er c no _ s.2.2).mono ?_;rintro e w4 ⟨rfl,rfl⟩;refine a.out _ _ s (fun o=>?_);clear a K;refine tk 20 ?_;refine rH 21 fun K a=>?_;go_simp;refine a.out _ _ (k.out _).1 (fun X=>?_);clear a K;refine rH 22 fun K a=>?_;go_simp;refine a.out _ _ (k.out _).1 (fun Y=>?_);clear a K;refine cK ?_;go_wp2_with fail
   go_meet
   case rel=>exact⟨rfl,rfl,(k.out _).2.1,(k.out _).2.2⟩
  refine .cons rfl (fun K a=>?_) .nil;go_simp;refine a.out _ _ (k.out _).1 (fun o=>?_);clear a K;refine rH 4 fun K a=>?_;go_simp;go_at_call 112;refine(Er c no _ o.2.2).mono ?_;rintro e w4 ⟨rfl,rfl⟩;refine a.out _ _ o (fun X=>?_);clear a K;refine tk 20 ?_;refine rH 22 fun K a=>?_;go_simp;refine a.out _ _ (k.out _).1 (fun Y=>?_);clear a K;refine cK ?_;go_wp2_with fail
  go_meet
  case rel=>exact⟨rfl,rfl,(k.out _).2.1,(k.out _).2.2⟩
 case rest=>
  obtain⟨rfl,rfl,f,n⟩:=hcut;have d:wc.heap[w.heap.size+1]? =some (.cells lQ 96 (0,0)):=bD n g.out.2.2.1;have z:=bp n g.out.2.2.2;have ah:w.heap.size+1<b.heap.size:=(aP.1 g.out.2.2.1).1;have t:w.heap.size<b.heap.size:=ak;have p:=aL (g.out.2.1.trans (n.mono g.out.2.1.size));clear n g;generalize b.heap.size=N at*;have s0:=av f (i:=0) rfl;have s1:=av f (i:=1) rfl;have s2:=av f (i:=2) rfl;have s3:=av f (i:=3) rfl;have s4:=av f (i:=4) rfl;have s5:=av f (i:=5) rfl;have s6:=av f (i:=6) rfl;have sf:=fun i=>aS f i;have L:=av d (i:=0) rfl;have M:=av d (i:=1) rfl;have O:=av d (i:=2) rfl;have P:=av d (i:=3) rfl;have Q:=av d (i:=4) rfl;have R:=av d (i:=5) rfl;have T:=av d (i:=6) rfl;have zf:=fun i=>aS d i;have Z:¬w.heap.size+1=N:=ak;have af:¬N=w.heap.size+1:=ak
  have q:Hid (∀W C D E F G H I,aB w W->aB w (((((((W.setCell (aa (w.heap.size+1) 0) C).setCell (aa (w.heap.size+1) 1) D).setCell (aa (w.heap.size+1) 2) E).setCell (aa (w.heap.size+1) 3) F).setCell (aa (w.heap.size+1) 4) G).setCell (aa (w.heap.size+1) 5) H).setCell (aa (w.heap.size+1) 6) I)):=fun W C D E F G H I V=>
   Below.setCell (Below.setCell (Below.setCell (Below.setCell (Below.setCell (Below.setCell (Below.setCell V (ju _) _) (ju _) _) (ju _) _) (ju _) _) (ju _) _) (ju _) _) (ju _) _
  have U:Hid (aB w (wc.setCell (aa N 6) (aj 5))):=Below.setCell p.out (mg t) _;clear d f ah t;cases m:ft.cM with
  |false=>
   rw[m]at z;go_wp2;refine fX (v:=.agg (gZ (pz no r false))) (by simp[results,results162,go_sem,L,M,O,P,Q,R,T]) rfl ⟨by rw[m],?_⟩;exact q.out _ _ _ _ _ _ _ _ p.out
  |true=>
   rw[m]at z;go_wp2;refine fX (v:=.agg (gZ (pz no r true))) (by simp[results,results162,go_sem,L,M,O,P,Q,R,T,Z,af,pz]) rfl ⟨by rw[m],?_⟩;exact q.out _ _ _ _ _ _ _ _ U.out
end
end Go.Proofs.YtpobhljcainmdaaGreat
