/- Proved here: a part of what Doors keeps (Mc10, Mc11, Mc12, Mc13). -/
import Derived.Test.YtpobhljcainmdaaGreatJ28
set_option maxRecDepth 100000
set_option maxHeartbeats 8000000
set_option linter.all false
namespace Go.Proofs.YtpobhljcainmdaaGreat
section
open Go Go.Conc
open Go.ConcN (ShN WgLive sumTo upd sumTo_upd upd_ne upd_same)
open Go.ConcR (KK WgAt stA smA rd wr mk)
section
variable [aR] [aB] {P:Program} {ty:TypeId} {Wg:Nat} {Shun:Loc->Prop} {Q:Nat->(Nat->Prop)->World->Prop} {M old:Nat} {O0:AV} {mp:Mp} {a:Goroutine} {bl:Bool} {w0:World} {m:Nat} {f:Nat->xw} {Ow:Nat->Nat->Prop} {q:Nat->Nat} {gs:Array Goroutine} {w:World} {t:Trace} {sl:Option (Nat×Nat)}
theorem vg{k:Nat}{fn:FuncId}{pos:String}{es:Array Event}(hm:∀e∈es,e.mute=true):∀op∈MemOp.ofEvents k fn pos es,op.act.touch?=none:=fun op hop=>by obtain⟨e,he,rfl⟩:=Go.Conc.mem_ofEvents hop;exact touch_mute (hm e he)
theorem BV{k:Nat}{fn:FuncId}{pos:String}{es:Array Event}(hm:∀e∈es,e.mute=true)(B:Nat):∀op∈MemOp.ofEvents k fn pos es,op.act.low B:=fun op hop=>by obtain⟨e,he,rfl⟩:=Go.Conc.mem_ofEvents hop;exact low_mute (hm e he) B
theorem BW{k:Nat}{fn:FuncId}{pos:String}{es:Array Event}(hm:∀e∈es,e.mute=true)(ad:Addr):∀op∈MemOp.ofEvents k fn pos es,op.act≠.mark (.release ad):=fun op hop e'=>by
 obtain⟨⟨loc,wr,sy⟩,he,rfl⟩:=Go.Conc.mem_ofEvents hop;have:=hm _ he;cases loc with
 |mark x=>cases x<;>simp_all[Event.mute,MemAct.ofEvent]
 |_=>simp_all[Event.mute]
theorem iT.Lx{k r:Nat}(h:iT Wg t k r){ops:Trace}(hn:∀op∈ops,op.act.touch?=none):iT Wg (t++ops) k r:=by
 refine h.app (fun i hi hg hc=>?_) fun op hop _ x hx=>by rw[hn op hop]at hx;cases hx
 obtain⟨x,hx,_⟩:=hc;rcases iA hg with⟨hlt,_⟩|⟨_,op,hop,h1,_⟩
 ·omega
 ·have:touchAt (t++ops) i=some x:=hx;rw[touchAt_of h1,hn op hop]at this;cases this
theorem act?_old{ops:Trace}{s:Nat}{x:MemAct}(h:t.act? s=some x):(t++ops).act? s=some x:=by obtain⟨z,hz,MR⟩:=Option.map_eq_some_iff.1 h;unfold Trace.act?;rw[getElem?_append_old (lt_size_of_getElem? hz),hz];exact congrArg some MR
theorem g?_old{ops:Trace}{s g:Nat}(h:t.g? s=some g):(t++ops).g? s=some g:=by obtain⟨z,hz,MR⟩:=Option.map_eq_some_iff.1 h;unfold Trace.g?;rw[getElem?_append_old (lt_size_of_getElem? hz),hz];exact congrArg some MR
theorem heard_old{ops:Trace}{s:Nat}(h:t.heard s):(t++ops).heard s:=by obtain⟨g,h1,h2⟩:=h;refine⟨g,g?_old h1,?_⟩;obtain⟨z,hz,_⟩:=Option.map_eq_some_iff.1 h1;rw[deaf_old (Nat.le_of_lt (lt_size_of_getElem? hz))];exact h2
theorem Acq.app{ops:Trace}(h:Acq Wg old m t)(hr:∀i k,i<m->iT Wg t (old+i) k->iT Wg (t++ops) (old+i) k):Acq Wg old m (t++ops):=by obtain⟨s,h1,h2,h3,h4⟩:=h;exact⟨s,act?_old h1,g?_old h2,heard_old h3,fun i hi=>by obtain⟨k,hk,hlt⟩:=h4 i hi;exact⟨k,hr i k hi hk,hlt⟩⟩
theorem Inv.leaves(h:Inv P ty Wg Shun Q M old O0 mp a bl w0 m f Ow q gs w t)(ha:a.status=.running){i:Nat}(hi:i<m)(hp:(f i).p=.quit)(hrun:(f i).g.status=.running):
  ∃um s' gs' ops,runT P (crowd gs w sl) (old+i)=(.next (crowd gs' w sl),ops)/\Inv P ty Wg Shun Q M old O0 mp a um w0 m (upd f i s') Ow q gs' w (t++ops)/\lV P ty Wg s' (f i)/\(um=true->bl=true):=by
 obtain⟨st,sm,hwg,hmode,sY⟩:=h.mode;have hW:=h.work i hi;obtain⟨hO,KR⟩:=h.own i hi;have Dg:old+i≠0:=by have:=h.many;omega
 have hkb:(old+i==0)=false:=by simp;have:=h.many;omega
 obtain⟨hq,hQ⟩:=hW.qu hp;cases hn:(f i).n with
 |zero=>rw[hn]at hq;rw[hq.1]at hrun;cases hrun
 |succ n=>
  rw[hn]at hq;rcases hq with⟨hf,_⟩|⟨_,g',es,hm,uQ,kY⟩
  ·rw[hf]at hrun;cases hrun
  have hr:=runT_crowd_go (P:=P) (sl:=sl) (i:=old+i) KR (by rw[hkb];exact uQ w);have hop:=MemOp.ofEvents_g (old+i) (f i).g.frame.fn (f i).g.frame.place es;have hnt:=vg (k:=old+i) (fn:=(f i).g.frame.fn) (pos:=(f i).g.frame.place) hm;have hF:woken P (f i).g g' w=woken P (f i).g g' w\/(woken P (f i).g g' w=id/\False):=.inl rfl;obtain⟨um,uP,BJ⟩:=rK h.main ha hF Dg;have hlt:old+i<gs.size:=(Array.getElem?_eq_some_iff.1 KR).1
  have cG:∀(j:Nat) x,0<j->j≠old+i->((gs.map (woken P (f i).g g' w)).setIfInBounds (old+i) g')[j]? =some x->gs[j]? =some x:=fun j x hj hne hx=>by rw[Array.getElem?_setIfInBounds_ne (Ne.symm hne),Array.getElem?_map]at hx;obtain⟨y,hy,rfl⟩:=Option.map_eq_some_iff.1 hx;rw[bZ hF (h.status hj hy)];exact hy
  have DK:∀(j:Nat) x,0<j->j≠old+i->gs[j]? =some x->((gs.map (woken P (f i).g g' w)).setIfInBounds (old+i) g')[j]? =some x:=fun j x hj hne hx=>by rw[Array.getElem?_setIfInBounds_ne (Ne.symm hne),Array.getElem?_map,hx];simp[bZ hF (h.status hj hx)]
  have hmp:=h.many;refine⟨um,⟨.quit,(f i).O,g',(f i).w,n⟩,_,_,hr,⟨h.many,by simp[h.size],h.room,h.tc.mute hnt (BV hm _) ⟨_,hop⟩,h.kt.app (fun op ho=>.inr (.inl (by rw[hop op ho];omega))) (BW hm _),?_,uP,h.zY,?_,fun j x hj BL hx=>?_,fun j hj=>?_,fun j hj=>?_,fun hb=>?_,fun j hj=>⟨?_,(h.above j hj).2.1,?_⟩,h.bare,h.all⟩,?_,fun e=>(BJ e).1⟩
  ·refine⟨st,sm,hwg,?_,fun e=>sY (BJ e).1⟩
   have:(fun j=>(upd f i ⟨.quit,(f i).O,g',(f i).w,n⟩ j).p)=fun j=>(f j).p:=by
    funext j
    by_cases hji:j=i
    ·subst hji;rw[upd_same];exact hp.symm
    ·rw[upd_ne f _ hji]
   rw[this];exact hmode
  ·rw[cu hop (Ne.symm Dg)];exact h.deaf0
  ·rw[cu hop (by omega)];exact h.bK j x hj BL (cG j x hj (by omega) hx)
  ·by_cases hji:j=i
   ·subst hji;rw[upd_same];exact⟨hO,by simp[hlt]⟩
   ·rw[upd_ne f _ hji];exact⟨(h.own j hj).1,DK _ _ (by omega) (by omega) (h.own j hj).2⟩
  ·by_cases hji:j=i
   ·subst hji;rw[upd_same];refine⟨hW.rel,fun hne=>absurd rfl hne,fun _=>⟨?_,hQ⟩,fun _=>?_⟩
    ·rw[Deaf_own];exact kY
    ·obtain⟨r,hr⟩:=hW.rl (by rw[hp];simp);exact⟨r,hr.Lx hnt⟩
   ·rw[upd_ne f _ hji];exact(h.work j hj).other hop (by omega) (.refl ..)
  ·exact(h.acq hb).app fun j k _ hk=>hk.Lx hnt
  ·rw[cu hop (by omega)];exact(h.above j hj).1
  ·exact jL hop (by omega) (h.above j hj).2.2
  ·exact .inr ⟨hp,rfl,by simp[hn]⟩
theorem Inv.gone(h:Inv P ty Wg Shun Q M old O0 mp a bl w0 m f Ow q gs w t)(ha:a.status=.running){k:Nat}(hk:0<k)(Va:k<old){g:Goroutine}(KR:gs[k]? =some g)(hrun:g.status=.running):
  ∃um n gs' ops,runT P (crowd gs w sl) k=(.next (crowd gs' w sl),ops)/\Inv P ty Wg Shun Q M old O0 mp a um w0 m f Ow (upd q k n) gs' w (t++ops)/\n<q k/\(um=true->bl=true):=by
 obtain⟨st,sm,hwg,hmode,sY⟩:=h.mode;have Dg:k≠0:=by omega
 have hkb:(k==0)=false:=by simp;omega
 have hq:=h.bK k g hk Va KR;cases hn:q k with
 |zero=>rw[hn]at hq;rw[hq.1]at hrun;cases hrun
 |succ n=>
  rw[hn]at hq;rcases hq with⟨hf,_⟩|⟨_,g',es,hm,uQ,kY⟩
  ·rw[hf]at hrun;cases hrun
  have hr:=runT_crowd_go (P:=P) (sl:=sl) (i:=k) KR (by rw[hkb];exact uQ w);have hop:=MemOp.ofEvents_g k g.frame.fn g.frame.place es;have hnt:=vg (k:=k) (fn:=g.frame.fn) (pos:=g.frame.place) hm;have hF:woken P g g' w=woken P g g' w\/(woken P g g' w=id/\False):=.inl rfl;obtain⟨um,uP,BJ⟩:=rK h.main ha hF Dg;have hlt:k<gs.size:=(Array.getElem?_eq_some_iff.1 KR).1
  have cG:∀(j:Nat) x,0<j->j≠k->((gs.map (woken P g g' w)).setIfInBounds k g')[j]? =some x->gs[j]? =some x:=fun j x hj hne hx=>by rw[Array.getElem?_setIfInBounds_ne (Ne.symm hne),Array.getElem?_map]at hx;obtain⟨y,hy,rfl⟩:=Option.map_eq_some_iff.1 hx;rw[bZ hF (h.status hj hy)];exact hy
  have DK:∀(j:Nat) x,0<j->j≠k->gs[j]? =some x->((gs.map (woken P g g' w)).setIfInBounds k g')[j]? =some x:=fun j x hj hne hx=>by rw[Array.getElem?_setIfInBounds_ne (Ne.symm hne),Array.getElem?_map,hx];simp[bZ hF (h.status hj hx)]
  refine⟨um,n,_,_,hr,⟨h.many,by simp[h.size],h.room,h.tc.mute hnt (BV hm _) ⟨_,hop⟩,h.kt.app (fun op ho=>.inr (.inr (hnt op ho))) (BW hm _),⟨st,sm,hwg,hmode,fun e=>sY (BJ e).1⟩,uP,h.zY,?_,fun j x hj BL hx=>?_,fun j hj=>?_,fun j hj=>?_,fun hb=>?_,fun j hj=>⟨?_,(h.above j hj).2.1,?_⟩,h.bare,h.all⟩,by omega,fun e=>(BJ e).1⟩
  ·rw[cu hop (Ne.symm Dg)];exact h.deaf0
  ·by_cases hjk:j=k
   ·subst hjk;rw[Array.getElem?_setIfInBounds_self_of_lt (by simpa using hlt)]at hx;obtain rfl:=Option.some.inj hx;rw[upd_same,Deaf_own];exact kY
   ·rw[cu hop hjk,upd_ne q n hjk];exact h.bK j x hj BL (cG j x hj hjk hx)
  ·exact⟨(h.own j hj).1,DK _ _ (by omega) (by omega) (h.own j hj).2⟩
  ·exact(h.work j hj).other hop (by omega) (.refl ..)
  ·exact(h.acq hb).app fun j k _ hk=>hk.Lx hnt
  ·rw[cu hop (by omega)];exact(h.above j hj).1
  ·exact jL hop (by omega) (h.above j hj).2.2
end
end
section
open Go Go.Conc
open Go.ConcN (ShN WgLive sumTo upd sumTo_upd upd_ne upd_same)
open Go.ConcR (KK WgAt stA smA rd wr mk)
section
variable [aR] [aB] {P:Program} {ty:TypeId} {Wg:Nat} {Shun:Loc->Prop} {Q:Nat->(Nat->Prop)->World->Prop} {M old:Nat} {O0:AV} {mp:Mp} {a:Goroutine} {bl:Bool} {w0:World} {m:Nat} {f:Nat->xw} {Ow:Nat->Nat->Prop} {q:Nat->Nat} {gs:Array Goroutine} {w:World} {t:Trace} {sl:Option (Nat×Nat)}
theorem AM.running(h:AM mp a false gs):gs[0]? =some a:=by
 rcases h with⟨_,h⟩|⟨e,_⟩
 ·exact h
 ·cases e
theorem Inv.PW(h:Inv P ty Wg Shun Q M old O0 mp a false w0 m f Ow q gs w t)(ha:a.status=.running){g':Goroutine}{w':World}{aD:Array MemAct}{p':Mp}(ht:iU P true a w g' w' aD)
  (Xp:∀ops:Trace,ops.map (·.act)=aD->(∀op∈ops,op.g=0)->TC Wg (iY Ow 0 (dQ (Ow 0) w w')) w'.heap.size (t++ops)/\KT Shun Wg old (t++ops)/\Deaf (t++ops) 0=p'.fS/\(p'=.back->Acq Wg old m (t++ops)))
  (hmo:∃st sm,WgAt ty Wg w' st sm/\Mode m (fun i=>(f i).p) p' st sm)
  (hrl:∀O':Nat->Prop,(∀b,O' b->¬Ow 0 b)->(∀b,O' b->b<w.heap.size)->¬O' Wg->Rel ty Wg O' w w'):
  ∃tF gs' ops,runT P (crowd gs w sl) 0=(.next (crowd gs' w' sl),ops)/\Inv P ty Wg Shun Q M old O0 p' g' false w' m f tF q gs' w' (t++ops)/\tF 0=dQ (Ow 0) w w':=by
 have h0:=h.main.running;obtain⟨F,ops,hr,hF,hact,hop⟩:=sQ (sl:=sl) (i:=0) h0 (h.Gg ha) ht;obtain⟨k1,k2,k3,k4⟩:=Xp ops hact hop;have hlt:0<gs.size:=(Array.getElem?_eq_some_iff.1 h0).1;have hmp:=h.many
 have cG:∀(j:Nat) x,0<j->((gs.map F).setIfInBounds 0 g')[j]? =some x->gs[j]? =some x:=fun j x hj hx=>by rw[Array.getElem?_setIfInBounds_ne (by omega),Array.getElem?_map]at hx;obtain⟨y,hy,rfl⟩:=Option.map_eq_some_iff.1 hx;rw[bZ hF (h.status hj hy)];exact hy
 have DK:∀(j:Nat) x,0<j->gs[j]? =some x->((gs.map F).setIfInBounds 0 g')[j]? =some x:=fun j x hj hx=>by rw[Array.getElem?_setIfInBounds_ne (by omega),Array.getElem?_map,hx];simp[bZ hF (h.status hj hx)]
 obtain⟨st,sm,m1,m2⟩:=hmo;refine⟨iY Ow 0 (dQ (Ow 0) w w'),_,ops,hr,⟨h.many,by simp[h.size],h.room,k1,k2,⟨st,sm,m1,m2,fun e=>by cases e⟩,.inl ⟨rfl,by simp[hlt]⟩,.refl ..,k3,fun j x hj BL hx=>?_,fun j hj=>?_,fun j hj=>?_,k4,fun j hj=>⟨?_,?_,?_⟩,fun j hj BL=>?_,FE h.all (hrl O0.X (fun b hb hb'=>h.all.no 0 b hb' hb) h.all.small h.all.wg) fun b hb=>hb.imp id fun h=>h.1⟩,nE ..⟩
 ·rw[cu hop (by omega)];exact h.bK j x hj BL (cG j x hj hx)
 ·rw[dx Ow (by omega)];exact⟨(h.own j hj).1,DK _ _ (by omega) (h.own j hj).2⟩
 ·refine(h.work j hj).other hop (by omega) ((h.own j hj).1▸hrl (Ow (old+j)) (fun b hb hb'=>?_) (fun b hb=>h.tc.lt _ b hb) (h.tc.wg _));have:=h.tc.one _ _ b hb hb';omega
 ·rw[cu hop (by omega)];exact(h.above j hj).1
 ·rw[dx Ow (by omega)];exact(h.above j hj).2.1
 ·exact jL hop (by omega) (h.above j hj).2.2
 ·rw[dx Ow (by omega)];exact h.bare j hj BL
theorem cx.back{O:Nat->Prop}{w w':World}{p:Mp}{aD:Array MemAct}(h:cx ty Wg O w p w' aD .back):p=.back\/(p=.wM/\aD=#[MemAct.mark (.acquire (stA Wg))]):=by
 generalize hb:Mp.back=p' at h;cases h with
 |acq=>exact .inr ⟨rfl,by simp[mk,MemAct.ofEvent]⟩
 |own hp=>subst hb;exact .inl rfl
 |idle=>subst hb;exact .inl rfl
 |DC hq=>rcases hq with rfl|⟨_,rfl,_⟩<;>cases hb
 |_=>cases hb
theorem Inv.VF(h:Inv P ty Wg Shun Q M old O0 mp a false w0 m f Ow q gs w t)(ha:a.status=.running){g':Goroutine}{w':World}{aD:Array MemAct}{p':Mp}(ht:iU P true a w g' w' aD)(hok:cx ty Wg (Ow 0) w mp w' aD p'):
  ∃tF gs' ops,runT P (crowd gs w sl) 0=(.next (crowd gs' w' sl),ops)/\Inv P ty Wg Shun Q M old O0 p' g' false w' m f tF q gs' w' (t++ops)/\tF 0=dQ (Ow 0) w w':=by
 obtain⟨st,sm,hwg,hmode,_⟩:=h.mode;have hm:m<2147483647:=by have:=h.room;omega
 have hmp:=h.many;refine h.PW ha ht (fun ops hact hop=>⟨hok.tc rfl h.tc hact hop,hok.kt h.kt hact hop,hok.fS hact hop h.deaf0,fun hb=>?_⟩) (hmode.main hwg (h.tc.wg 0) h.tc.Jz hok hm) fun O' h1 h2 h3=>hok.Om h1 h2 (h.tc.wg 0) h3 h.tc.Jz;subst hb;rcases hok.back with e|⟨e,e2⟩
 ·exact(h.acq e).app fun i k _ hk=>hk.other hop (by omega)
 ·subst e e2;have hq:=(hmode.vu trivial).1;have hsz:ops.size=1:=by have:=congrArg Array.size hact;simpa using this
  obtain⟨op,rfl⟩:∃op,ops=#[op]:=by
   obtain⟨l⟩:=ops
   match l,hsz with
   |[op],_=>exact⟨op,rfl⟩
  have UG:op.act=.mark (.acquire (stA Wg)):=by simpa using hact
  have hk:=hop op (by simp);refine⟨t.size,by simp[Trace.act?,UG],by simp[Trace.g?,hk],⟨0,by simp[Trace.g?,hk],?_⟩,fun i hi=>?_⟩
  ·rw[deaf_old (Nat.le_refl _)];exact h.deaf0
  ·obtain⟨r,hr⟩:=(h.work i hi).rl (by have e:(f i).p=.quit:=hq i hi;rw[e];simp);refine⟨r,hr.other hop (by omega),?_⟩;have:=hr.SJ.act;unfold Trace.act? at this;obtain⟨z,hz,_⟩:=Option.map_eq_some_iff.1 this;exact lt_size_of_getElem? hz
theorem Inv.take(h:Inv P ty Wg Shun Q M old O0 .reg a false w0 m f Ow q gs w t)(ha:a.status=.running){st:Int}(hwg:WgAt ty Wg w st 1){g':Goroutine}(hs:stepG P true a w=.go g' (w.setCell (smA Wg) (.int .u32 0)) (semEvents (smA Wg))):
  ∃tF gs' ops,runT P (crowd gs w sl) 0=(.next (crowd gs' (w.setCell (smA Wg) (.int .u32 0)) sl),ops)/\Inv P ty Wg Shun Q M old O0 .woken g' false (w.setCell (smA Wg) (.int .u32 0)) m f tF q gs' (w.setCell (smA Wg) (.int .u32 0)) (t++ops)/\tF 0=Ow 0:=by
 obtain⟨st',sm',hwg',hmode,_⟩:=h.mode;obtain⟨rfl,rfl⟩:=hwg.unique hwg';have hmp:=h.many;have hG:dQ (Ow 0) w (w.setCell (smA Wg) (.int .u32 0))=Ow 0:=kW (by simp);have Ve:∀act∈(semEvents (smA Wg)).map MemAct.ofEvent,Gw Wg act:=fun act ha=>(zF Wg act ha).NW;have:=h.PW (sl:=sl) (p':=.woken) ha (.go hs) (fun ops hact hop=>⟨Gp (.inr ⟨by simp,Ve⟩) (by simp) rfl h.tc hact hop,h.kt.app (fun op ho=>.inl (hop op ho)) fun op ho=>(Ve _ (by rw[<-hact];exact Array.mem_map.2 ⟨op,ho,rfl⟩)).rel,?_,fun e=>by cases e⟩) (hmode.take hwg) fun O' h1 h2 h3=>gy rfl h3 ⟨_,_,hwg.setSm _⟩
 ·obtain⟨tF,gs',ops,h1,h2,h3⟩:=this;exact⟨tF,gs',ops,h1,h2,h3.trans hG⟩
 ·rw[nh hop,hact,h.deaf0];simp[je,MemAct.ofEvent,semEvents,Mp.fS]
theorem Inv.block(h:Inv P ty Wg Shun Q M old O0 .reg a false w0 m f Ow q gs w t)(ho:a.offers=none){st:Int}(hwg:WgAt ty Wg w st 0)(hs:stepG P true a w=.go {a with status:=.blocked} w #[]):
  ∃gs' ops,runT P (crowd gs w sl) 0=(.next (crowd gs' w sl),ops)/\Inv P ty Wg Shun Q M old O0 .reg a true w0 m f Ow q gs' w (t++ops):=by
 obtain⟨st',sm',hwg',hmode,_⟩:=h.mode;obtain⟨rfl,rfl⟩:=hwg.unique hwg';have h0:=h.main.running;have hr:=runT_crowd_go (P:=P) (sl:=sl) (i:=0) h0 (show stepG P (0==0) a w=_ from hs);have hlt:0<gs.size:=(Array.getElem?_eq_some_iff.1 h0).1;have hmp:=h.many;have hF:woken P a {a with status:=.blocked} w=woken P a {a with status:=.blocked} w\/(woken P a {a with status:=.blocked} w=id/\False):=.inl rfl;have he:t++MemOp.ofEvents 0 a.frame.fn a.frame.place #[]=t:=by rw[ofEvents_eq];simp
 refine⟨_,_,hr,?_⟩;rw[he];refine⟨h.many,by simp[h.size],h.room,h.tc,h.kt,⟨_,_,hwg',hmode,fun _ e=>by cases e⟩,.inr ⟨rfl,rfl,ho,by simp[hlt]⟩,h.zY,h.deaf0,fun j x hj BL hx=>?_,fun j hj=>⟨(h.own j hj).1,?_⟩,h.work,h.acq,h.above,h.bare,h.all⟩
 ·rw[Array.getElem?_setIfInBounds_ne (by omega),Array.getElem?_map]at hx;obtain⟨y,hy,rfl⟩:=Option.map_eq_some_iff.1 hx;rw[bZ hF (h.status hj hy)];exact h.bK j y hj BL hy
 ·rw[Array.getElem?_setIfInBounds_ne (by omega),Array.getElem?_map,(h.own j hj).2];simp[bZ hF (h.status (by omega) (h.own j hj).2)]
theorem GH{x y:MemOp}{c j:Nat}(hx:x.act=.go c)(hy:y.act=.start):Deaf (t++#[x,y]) j=Deaf t j:=by have h:=Deaf_append t j [x,y];rw[show(#[x,y]:Array MemOp)=[x,y].toArray from rfl,h];simp[deafStep,hx,hy]
theorem Inv.fork(h:Inv P ty Wg Shun Q M old O0 .ready a false w0 m f Ow q gs w t)(hM:m<M){A R:Nat->Prop}(hA:∀b,A b->Ow 0 b)(hR:∀b,R b->Ow 0 b)(Po:∀b,A b->¬R b)(hall:∀b,Ow 0 b->A b\/R b){g' child:Goroutine}(hs:stepG P true a w=.spawn g' child w #[])(FZ:WS P ty Wg (Q m) .work A child w):
  ∃f' tF gs' ops,runT P (crowd gs w sl) 0=(.next (crowd gs' w sl),ops)/\Inv P ty Wg Shun Q M old O0 .opn g' false w (m+1) f' tF q gs' w (t++ops)/\tF 0=R:=by
 obtain⟨st,sm,hwg,hmode,_⟩:=h.mode;have h0:=h.main.running;have hr:=runT_crowd_spawn (P:=P) (sl:=sl) (i:=0) h0 (show stepG P (0==0) a w=_ from hs);have hlt:0<gs.size:=(Array.getElem?_eq_some_iff.1 h0).1;have hmp:=h.many;have hsz:=h.size
 have he:((MemOp.ofEvents 0 a.frame.fn a.frame.place #[]).push {g:=0,fn:=a.frame.fn,pos:=a.frame.place,act:=.go gs.size}).push {g:=gs.size,fn:=child.frame.fn,pos:=a.frame.place,act:=.start}=#[{g:=0,fn:=a.frame.fn,pos:=a.frame.place,act:=.go gs.size},{g:=gs.size,fn:=child.frame.fn,pos:=a.frame.place,act:=.start}]:=by rw[ofEvents_eq];simp
 rw[he]at hr;generalize hx:({g:=0,fn:=a.frame.fn,pos:=a.frame.place,act:=.go gs.size}:MemOp)=x at hr;generalize hy:({g:=gs.size,fn:=child.frame.fn,pos:=a.frame.place,act:=.start}:MemOp)=y at hr;have hx':x.g=0/\x.act=.go (old+m):=by rw[<-hx,<-hsz];exact⟨rfl,rfl⟩
 have hy':y.g=old+m/\y.act=.start:=by rw[<-hy,<-hsz];exact⟨rfl,rfl⟩
 have hdf:∀j,Deaf (t++#[x,y]) j=Deaf t j:=fun j=>GH hx'.2 hy'.2;have split:t++#[x,y]=(t++#[x])++#[y]:=by apply Array.ext';simp
 have RK:∀(j:Nat) z,j≠0->gs[j]? =some z->((gs.setIfInBounds 0 g').push child)[j]? =some z:=fun j z hj hz=>by have hjl:=(Array.getElem?_eq_some_iff.1 hz).1;rw[Array.getElem?_push,if_neg (by simp;omega),Array.getElem?_setIfInBounds_ne (by omega)];exact hz
 have Qt:∀(j:Nat) z,j≠0->j<gs.size->((gs.setIfInBounds 0 g').push child)[j]? =some z->gs[j]? =some z:=fun j z hj hjl hz=>by rw[Array.getElem?_push,if_neg (by simp;omega),Array.getElem?_setIfInBounds_ne (by omega)]at hz;exact hz
 refine⟨upd f m ⟨.work,A,child,w,0⟩,iY (iY Ow 0 R) (old+m) A,_,_,hr,⟨h.many,by simp[h.size];omega,⟨h.room.1,hM⟩,h.tc.fork (by omega) hA hR Po (h.above _ (Nat.le_refl _)).2.1 hx' hy' h.deaf0 (h.above _ (Nat.le_refl _)).1,h.kt.app (fun op ho=>?_) (fun op ho=>?_),⟨st,sm,hwg,by rw[Mx];exact hmode.spawn,(fun e=>by cases e)⟩,.inl ⟨rfl,?_⟩,.refl ..,?_,fun j z hj BL hz=>?_,fun j hj=>?_,fun j hj=>?_,(fun e=>by cases e),fun j hj=>⟨?_,?_,?_⟩,fun j hj BL=>?_,⟨fun j b hb hx=>?_,fun j b hb=>?_,h.all.lt,h.all.rel,h.all.wg⟩⟩,?_⟩
 ·simp only[List.mem_toArray,List.mem_cons,List.not_mem_nil,or_false]at ho;rcases ho with rfl|rfl
  ·exact .inl hx'.1
  ·exact .inr (.inl (by rw[hy'.1];omega))
 ·simp only[List.mem_toArray,List.mem_cons,List.not_mem_nil,or_false]at ho;rcases ho with rfl|rfl
  ·rw[hx'.2];simp
  ·rw[hy'.2];simp
 ·rw[Array.getElem?_push,if_neg (by simp;omega)];simp[hlt]
 ·rw[hdf];exact h.deaf0
 ·rw[hdf];exact h.bK j z hj BL (Qt j z (by omega) (by omega) hz)
 ·by_cases UY:j=m
  ·subst UY;rw[upd_same,nE];refine⟨rfl,?_⟩;rw[Array.getElem?_push,if_pos (by simp;omega)]
  ·rw[upd_ne f _ UY,dx _ (by omega),dx _ (by omega)];exact⟨(h.own j (by omega)).1,RK _ _ (by omega) (h.own j (by omega)).2⟩
 ·by_cases UY:j=m
  ·subst UY;rw[upd_same];refine⟨.refl ..,fun _=>⟨FZ,?_⟩,(fun e=>by cases e),fun e=>absurd rfl e⟩;rw[hdf];exact(h.above _ (Nat.le_refl _)).1
  ·rw[upd_ne f _ UY,split];exact((h.work j (by omega)).other (j:=0) (ops:=#[x]) (fun op ho=>by simp at ho;rw[ho];exact hx'.1) (by omega) (.refl ..)).other (j:=old+m) (fun op ho=>by simp at ho;rw[ho];exact hy'.1) (by omega) (.refl ..)
 ·rw[hdf];exact(h.above j (by omega)).1
 ·rw[dx _ (by omega),dx _ (by omega)];exact(h.above j (by omega)).2.1
 ·rw[split];exact jL (k:=old+m) (fun op ho=>by simp at ho;rw[ho];exact hy'.1) (by omega) (jL (k:=0) (fun op ho=>by simp at ho;rw[ho];exact hx'.1) (by omega) (h.above j (by omega)).2.2)
 ·rw[dx _ (by omega),dx _ (by omega)];exact h.bare j hj BL
 ·rcases hb with⟨_,hb⟩|⟨_,⟨_,hb⟩|⟨_,hb⟩⟩
  ·exact h.all.no 0 b (hA b hb) hx
  ·exact h.all.no 0 b (hR b hb) hx
  ·exact h.all.no j b hb hx
 ·rcases hb with⟨_,hb⟩|⟨_,⟨_,hb⟩|⟨_,hb⟩⟩
  ·exact h.all.old 0 b (hA b hb)
  ·exact h.all.old 0 b (hR b hb)
  ·exact h.all.old j b hb
 ·rw[dx _ (by omega),nE]
end
end
section
open Go Go.Conc
open Go.ConcN (ShN WgLive sumTo upd sumTo_upd upd_ne upd_same)
open Go.ConcR (KK WgAt stA smA rd wr mk)
section
variable [aR] [aB] {P:Program} {ty:TypeId} {Wg:Nat} {Shun:Loc->Prop} {Post:Nat->(Nat->Prop)->Goroutine->World->Prop} {Q:Nat->(Nat->Prop)->World->Prop} {M old:Nat} {O0:AV} {mp:Mp} {a:Goroutine} {w0:World} {m:Nat}
def lQ(P:Program)(ty:TypeId)(Wg:Nat)(Shun:Loc->Prop)(Post:Nat->(Nat->Prop)->Goroutine->World->Prop)(Q:Nat->(Nat->Prop)->World->Prop)(M old:Nat)(O0:AV)(gs:Array Goroutine)(w:World)(sl:Option (Nat×Nat))(t:Trace):Prop:=
 ∃N a w0 m f Ow q gs' w' sl' t',runNT P N (crowd gs w sl) t=(.next (crowd gs' w' sl'),t')/\Inv P ty Wg Shun Q M old O0 .back a false w0 m f Ow q gs' w' t'/\Post m (Ow 0) a w'/\dD w w'
theorem lQ.step{gs gX:Array Goroutine}{w w1:World}{sl Gm:Option (Nat×Nat)}{t ops:Trace}(hs:stepT P (crowd gs w sl)=(.next (crowd gX w1 Gm),ops))(hw:dD w w1)(h:lQ P ty Wg Shun Post Q M old O0 gX w1 Gm (t++ops)):lQ P ty Wg Shun Post Q M old O0 gs w sl t:=by obtain⟨N,a,w0,m,f,Ow,q,gs',w',sl',t',h1,h2,h3,h4⟩:=h;exact⟨N+1,a,w0,m,f,Ow,q,gs',w',sl',t',by simp only[runNT,hs];exact h1,h2,h3,hw.trans h4⟩
theorem Jl(s:xw):Gz ty Wg s s:=⟨rfl,rfl,rfl,rfl,.refl ..⟩
theorem Inv.go{O:Nat->Prop}(ha:a.status=.running)
  (uP:∀f Ow q gs w sl t,Ow 0=O->Inv P ty Wg Shun Q M old O0 mp a false w0 m f Ow q gs w t->∃gX w1 ops,runT P (crowd gs w sl) 0=(.next (crowd gX w1 sl),ops)/\dD w w1/\(lQ P ty Wg Shun Post Q M old O0 gX w1 sl (t++ops)\/Inv P ty Wg Shun Q M old O0 mp a true w0 m f Ow q gX w1 (t++ops))):
  ∀f,Acc (Down (lV P ty Wg) (Gz ty Wg) m) f->∀S bl Ow q gs w sl t,sumTo old q<S->Ow 0=O->Inv P ty Wg Shun Q M old O0 mp a bl w0 m f Ow q gs w t->lQ P ty Wg Shun Post Q M old O0 gs w sl t:=by
 intro f hacc;induction hacc with
 |intro f _ Xt=>
  intro S;induction S with
  |zero=>exact fun bl Ow q gs w sl t h=>absurd h (by omega)
  |succ S ZK=>
   have down:∀{i:Nat} {s':xw},i<m->lV P ty Wg s' (f i)->Down (lV P ty Wg) (Gz ty Wg) m (upd f i s') f:=fun{i s'} hi hd=>
    ⟨i,hi,by rw[upd_same];exact hd,fun j _ hne=>by rw[upd_ne f _ hne];exact Jl _⟩
   have other:∀bl Ow q gs w sl t,sumTo old q<S+1->Ow 0=O->Inv P ty Wg Shun Q M old O0 mp a bl w0 m f Ow q gs w t->∀(k:Nat) g,0<k->gs[k]? =some g->g.status=.running->
     ∃gX w1 ops,runT P (crowd gs w sl) k=(.next (crowd gX w1 sl),ops)/\dD w w1/\lQ P ty Wg Shun Post Q M old O0 gX w1 sl (t++ops):=by
    intro bl Ow q gs w sl t hS hO h k g hk hg hrun
    by_cases Va:k<old
    ·obtain⟨um,n,gs',ops,h1,h2,h3,_⟩:=h.gone (sl:=sl) ha hk Va hg hrun;have:sumTo old (upd q k n)+q k=sumTo old q+n:=sumTo_upd q n id Va;exact⟨gs',w,ops,h1,.refl _,ZK um Ow _ gs' w sl _ (by omega) hO h2⟩
    ·obtain⟨i,rfl⟩:∃i,k=old+i:=⟨k-old,by omega⟩
     have hi:i<m:=by have:=(Array.getElem?_eq_some_iff.1 hg).1;have:=h.size;omega
     have KQ:=(h.own i hi).2;rw[hg]at KQ;obtain rfl:=Option.some.inj KQ
     by_cases hp:(f i).p=.quit
     ·obtain⟨um,s',gs',ops,h1,h2,h3,_⟩:=h.leaves (sl:=sl) ha hi hp hrun;exact⟨gs',w,ops,h1,.refl _,Xt _ (down hi h3) _ um Ow q gs' w sl _ (Nat.lt_succ_self _) hO h2⟩
     ·obtain⟨um,s',tF,gs',w',ops,h1,h2,h3,h4,_,h5⟩:=h.worker (sl:=sl) ha hi hp;exact⟨gs',w',ops,h1,h4,Xt _ (down hi h3) _ um tF q gs' w' sl _ (Nat.lt_succ_self _) (h5.trans hO) h2⟩
   have hT:∀Ow q gs w sl t,sumTo old q<S+1->Ow 0=O->Inv P ty Wg Shun Q M old O0 mp a true w0 m f Ow q gs w t->lQ P ty Wg Shun Post Q M old O0 gs w sl t:=by
    intro Ow q gs w sl t hS hO h
    have hb:mp=.reg/\gs[0]? =some {a with status:=.blocked}:=by
     rcases h.main with⟨e,_⟩|⟨_,e,_,h0⟩
     ·cases e
     ·exact⟨e,h0⟩
    obtain⟨st,sm,hwg,hmode,sY⟩:=h.mode
    obtain⟨i,hi,hp⟩:∃i,i<m/\(f i).p≠.quit:=by
     rw[hb.1]at hmode;rcases hmode.Sc with e|⟨_,e,_⟩
     ·subst e;exact hmode.Me
     ·exact absurd e (sY rfl)
    obtain⟨k,g,d,sl',hk,hg,hst⟩:=crowd_pick (P:=P) (w:=w) (sl:=sl) (h.JP ha) ⟨old+i,_,(h.own i hi).2,((h.work i hi).ws hp).1.running hp⟩;rcases Nat.eq_zero_or_pos k with rfl|hpos
    ·rw[hb.2]at hk;rw[<-Option.some.inj hk]at hg;cases hg
    ·obtain⟨gX,w1,ops,h1,h2,h3⟩:=other true Ow q gs (w.at d) sl' t hS hO (h.at d) k g hpos hk hg;exact .step (hst.trans h1) ((dD.at w d).trans h2) h3
   intro bl Ow q gs w sl t hS hO h;cases bl with
   |true=>exact hT Ow q gs w sl t hS hO h
   |false=>
    have h0:=h.main.running;obtain⟨k,g,d,sl',hk,hg,hst⟩:=crowd_pick (P:=P) (w:=w) (sl:=sl) (h.JP ha) ⟨0,a,h0,ha⟩;rcases Nat.eq_zero_or_pos k with rfl|hpos
    ·obtain⟨gX,w1,ops,h1,h2,h3⟩:=uP f Ow q gs (w.at d) sl' t hO (h.at d);refine .step (hst.trans h1) ((dD.at w d).trans h2) ?_;rcases h3 with h3|h3
     ·exact h3
     ·exact hT Ow q gX w1 sl' _ hS hO h3
    ·obtain⟨gX,w1,ops,h1,h2,h3⟩:=other false Ow q gs (w.at d) sl' t hS hO (h.at d) k g hpos hk hg;exact .step (hst.trans h1) ((dD.at w d).trans h2) h3
theorem Inv.acc{f:Nat->xw}{bl:Bool}{Ow:Nat->Nat->Prop}{q:Nat->Nat}{gs:Array Goroutine}{w:World}{t:Trace}(h:Inv P ty Wg Shun Q M old O0 mp a bl w0 m f Ow q gs w t):Acc (Down (lV P ty Wg) (Gz ty Wg) m) f:=
 Da (Q:=Q) m f fun i hi=>by
  by_cases hp:(f i).p=.quit
  ·exact .inl hp
  ·exact .inr ((h.work i hi).ws hp).1
theorem phase{r:Nat}{p:Mp}{O:Nat->Prop}{g:Goroutine}(PI:MS P ty Wg Post Q M r p O g w0):∀f Ow q gs w sl t,Ow 0=O->Inv P ty Wg Shun Q M old O0 p g false w0 r f Ow q gs w t->lQ P ty Wg Shun Post Q M old O0 gs w sl t:=by
 induction PI with
 |done h=>
  intro f Ow q gs w sl t hO hI;subst hO;exact⟨0,_,_,_,f,Ow,q,gs,w,sl,t,rfl,hI,h w hI.zY,.refl _⟩
 |@step r p O g w0 hg qf h k ih=>
  intro f Ow q gs w sl t hO hI;refine Inv.go hg (fun f Ow q gs w sl t hO hI=>?_) f hI.acc (sumTo old q+1) false Ow q gs w sl t (by omega) hO hI;obtain⟨st,sm,hwg,hmode,_⟩:=hI.mode;have Hl:AI ty Wg p w:=hmode.Ub hwg (by have:=hI.room;omega);have hrel:=hI.zY;rw[hO]at hrel;obtain⟨g',w',aD,h1,h2⟩:=h w hrel Hl;obtain⟨tF,gs',ops,k1,k2,k3⟩:=hI.VF (sl:=sl) hg h1 (by rw[hO];exact h2);rw[hO]at k3;exact⟨gs',w',ops,k1,h2.same,.inl (ih w g' w' aD hrel Hl h1 f tF q gs' w' sl _ k3 k2)⟩
 |@sem r O g w0 hg ho hb h k ih=>
  intro f Ow q gs w sl t hO hI;refine Inv.go hg (fun f Ow q gs w sl t hO hI=>?_) f hI.acc (sumTo old q+1) false Ow q gs w sl t (by omega) hO hI;obtain⟨st,sm,hwg,hmode,_⟩:=hI.mode;have hrel:=hI.zY;rw[hO]at hrel;rcases hmode.Sc with rfl|⟨rfl,rfl,_⟩
  ·obtain⟨gs',ops,k1,k2⟩:=hI.block (sl:=sl) ho hwg (hb w hrel ⟨_,hwg⟩);exact⟨gs',w,ops,k1,.refl _,.inr k2⟩
  ·obtain⟨g',h1⟩:=h w hrel hwg;obtain⟨tF,gs',ops,k1,k2,k3⟩:=hI.take (sl:=sl) hg hwg h1;exact⟨gs',_,ops,k1,.set ..,.inl (ih w g' hrel hwg h1 f tF q gs' _ sl _ (k3.trans hO) k2)⟩
 |@spawn r O A R g w0 hr hg hA hR Po hall h c k ih=>
  intro f Ow q gs w sl t hO hI;refine Inv.go hg (fun f Ow q gs w sl t hO hI=>?_) f hI.acc (sumTo old q+1) false Ow q gs w sl t (by omega) hO hI;have hrel:=hI.zY;rw[hO]at hrel;obtain⟨g',child,h1,_⟩:=h w hrel;obtain⟨f',tF,gs',ops,k1,k2,k3⟩:=hI.fork (sl:=sl) hr (by rw[hO];exact hA) (by rw[hO];exact hR) Po (by rw[hO];exact hall) h1 (c w g' child hrel h1);exact⟨gs',w,ops,k1,.refl _,.inl (ih w g' child hrel h1 f' tF q gs' w sl _ k3 k2)⟩
end
end
section
open Go Go.Conc
open Go.ConcN (ShN WgLive sumTo upd sumTo_upd upd_ne upd_same)
open Go.ConcR (KK WgAt stA smA rd wr mk)
section
variable [aR] [aB] {P:Program} {ty:TypeId} {Wg:Nat} {Shun:Loc->Prop} {Post:Nat->(Nat->Prop)->Goroutine->World->Prop} {Q:Nat->(Nat->Prop)->World->Prop} {M old:Nat} {O0:AV} {mp:Mp} {a:Goroutine} {w0:World} {m:Nat} {f:Nat->xw} {Ow:Nat->Nat->Prop} {q:Nat->Nat} {gs:Array Goroutine} {w:World} {t:Trace}
theorem Inv.over(h:Inv P ty Wg Shun Q M old O0 .back a false w0 m f Ow q gs w t):
  gs[0]? =some a/\(∃q',Leavers P t gs q')/\Past (fun l=>Shun l\/ShN Wg l) w.heap.size t/\WgAt ty Wg w 0 0/\(∀i,i<m->Q i (Ow (old+i)) w)/\(∀i j,t.g? i=some j->j<gs.size)/\Rel ty Wg O0.X O0.W w/\(∀k b,Ow k b->b<w.heap.size)/\∀k,¬Ow k Wg:=by
 obtain⟨st,sm,hwg,hmode,_⟩:=h.mode;obtain⟨hq,rfl,rfl⟩:=hmode.vu trivial;obtain⟨s,h1,h2,h3,h4⟩:=h.acq rfl;have wL:∀i j,t.g? i=some j->j<old+m:=fun i j hj=>Nat.lt_of_not_le fun hle=>(h.above j hle).2.2 i hj;refine⟨h.main.running,⟨fun i=>if i<old then q i else(f (i-old)).n,fun i g hi hg=>?_,fun j hj=>(h.above j (by rw[<-h.size];exact hj)).1⟩,EA h.tc h.kt h1 h2 h3 (fun i g hg ho=>?_) h.deaf0,hwg,fun i hi=>?_,by rw[h.size];exact wL,h.all.rel,h.tc.lt,h.tc.wg⟩
 ·by_cases hlt:i<old
  ·rw[if_pos hlt];exact h.bK i g hi hlt hg
  ·rw[if_neg hlt];obtain⟨k,rfl⟩:∃k,i=old+k:=⟨i-old,by omega⟩
   have hk:k<m:=by have:=(Array.getElem?_eq_some_iff.1 hg).1;have:=h.size;omega
   have hgk:=(h.own k hk).2;rw[hg]at hgk;obtain rfl:=Option.some.inj hgk;rw[Nat.add_sub_cancel_left];exact((h.work k hk).qu (hq k hk)).1
 ·obtain⟨k,rfl⟩:∃k,g=old+k:=⟨g-old,by omega⟩;exact h4 k (by have:=wL i _ hg;omega)
 ·have:=((h.work i hi).qu (hq i hi)).2 w (h.work i hi).rel;rw[(h.own i hi).1]at this;exact this
theorem Inv.start{O X:Nat->Prop}{W:World}(hX:∀b,O b->¬X b)(hXl:∀b,X b->b<W.heap.size)(hXr:Rel ty Wg X W w)(hXW:¬X Wg)(hM:M<2147483647)(h0:gs[0]? =some a)(hL:Leavers P t gs q)(hP:Past Shun Wg t)(wL:∀i j,t.g? i=some j->j<gs.size)(hwg:WgAt ty Wg w 0 0)(hO:∀b,O b->b<w.heap.size)(Tf:¬O Wg)(hc:∀b,O b->∀l,AK b l->¬Shun l):
  Inv P ty Wg Shun Q M gs.size ⟨X,O,W⟩ .opn a false w 0 (fun _=>⟨.quit,fun _=>False,a,w,0⟩) (fun k b=>k=0/\O b) q gs w t:=by
 have hlt:0<gs.size:=(Array.getElem?_eq_some_iff.1 h0).1
 have FY:Wg<w.heap.size:=by unfold Go.ConcR.WgAt at hwg;exact(Array.getElem?_eq_some_iff.1 hwg).1
 have hP':Past Shun w.heap.size t:=hP.mono (Nat.le_of_lt FY);refine⟨hlt,rfl,⟨hM,Nat.zero_le _⟩,TC.start hP' hc hO Tf FY (fun op hop x hx hs=>?_),KT.start hP' (fun i hi=>?_),⟨0,0,hwg,?_,(fun e=>by cases e)⟩,.inl ⟨rfl,h0⟩,.refl ..,hP.hears,fun i g hi _ hg=>hL.old i g hi hg,fun i hi=>absurd hi (Nat.not_lt_zero _),fun i hi=>absurd hi (Nat.not_lt_zero _),(fun e=>by cases e),fun j hj=>⟨hL.above j hj,fun b hb=>?_,fun i hi=>?_⟩,fun j hj _ b hb=>?_,⟨fun j b hb=>hX b hb.2,fun j b hb=>.inl hb.2,hXl,hXr,hXW⟩⟩
 ·have:=yz (hP.seen op hop) hx;obtain⟨ad,e,rfl⟩:=hs;rw[e]at this;exact Nat.lt_irrefl _ this
 ·unfold Trace.act? at hi;obtain⟨op,hop,e⟩:=Option.map_eq_some_iff.1 hi;have:=hP.seen op (Array.mem_of_getElem? hop);rw[e]at this;exact Nat.lt_irrefl _ this
 ·have e:(0:Int)=((sumTo 0 (fun i=>((fun _=>(⟨.quit,fun _=>False,a,w,0⟩:xw)) i).p.counted)+Mp.opn.pend:Nat):Int) *KK:=by simp[sumTo,Mp.pend]
  have:=Mode.opn (m:=0) (f:=fun i=>((fun _=>(⟨.quit,fun _=>False,a,w,0⟩:xw)) i).p) (p:=.opn) trivial (fun i hi=>absurd hi (Nat.not_lt_zero _)) (fun b e=>by cases e) (fun b e=>by cases e);rw[<-e]at this;exact this
 ·obtain⟨rfl,_⟩:=hb;omega
 ·have:=wL i j hi;omega
 ·obtain⟨rfl,_⟩:=hb;omega
end
end
end Go.Proofs.YtpobhljcainmdaaGreat
