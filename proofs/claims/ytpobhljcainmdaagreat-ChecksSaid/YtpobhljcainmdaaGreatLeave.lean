/- Proved here: a row that bears 'leaving' (its program can start goroutines elsewhere) holds where each call of its function is made by one goroutine alone: whoever is alone at the return leaves nobody behind. -/
import Derived.JoinedCond
import Derived.Conc.Holds
namespace Go.Proofs.YtpobhljcainmdaaGreat
open Go

theorem leaving_of_alone {P : Program} {last : Machine} {w : World} {t : Trace} (h : aloneAtReturn P last w t) : leavingAtReturn P last w t := by
  obtain ⟨⟨hd, ht⟩, ho, he⟩ := h
  refine ⟨ho, ⟨fun g hg => ⟨0, ?_⟩, ht⟩, he⟩
  have := List.all_eq_true.1 hd g hg
  show g.status = .finished
  simpa using this

theorem leavingWide_of_handed {a : Assume} {C : Checked} {os : Os} {f : FuncId} {r : Reach} {Pre : World → Array Value → Prop} {Post : World → Array Value → Value → World → Prop}
    (h : ReturnsInHanded a C os f r Pre Post) : ReturnsInLeavingWide a C os f r Pre Post :=
  fun enter => ReturnsInOpen.mono (fun _ _ _ x => leaving_of_alone x) (fun _ x => x) (h enter)

/-- A row of the second form (with a bound on what comes in), that bears 'leaving'. -/
theorem holds_cond_leaving {p : Pinned} {s : OpenSpec} {c : OpenClaim} (f : FuncId) (fn : Func)
    (hn : c.program = p.name) (hs : c.sum = p.sum) (hsp : c.spec = s.name)
    (hstart : c.start = .entering) (hout : c.outside = []) (hin : c.inits = []) (hun : c.under = none) (hi4 : c.initsInPlace = [] ∧ c.initsUnfollowed = false ∧ c.initsRecurse = false ∧ c.initsNamed = [] ∧ c.initsPassed = [])
    (hnb : c.noBlocks = false) (hlv : c.leaving = true) (hfo : c.followed = none) (hnar : c.narrowed = s.cond.isSome) (hstill : c.still = false)
    (hfn : p.checked.prog.funcNamed c.func = some f) (hf : p.checked.prog.funcs[f]? = some fn)
    (closed : joinedFacts p.checked.prog f fn s.bare c = true)
    (hinst : fn.isInstance p.checked.prog c.origin c.targs) (hwrap : fn.isWrapper p.checked.prog c.wrapper c.mainSum)
    (h : ∀ os : Os, os.Started → ∀ (H : Type) (enc : TypeId × Value → H), (∀ a b, enc a = enc b → a = b) → ∀ F : Stop.Interp,
      ReturnsInLeavingWide c.assume p.checked os f .any (c.pre enc p.checked.prog fn s) ((s.at F).post enc p.checked.prog fn c.apart c.fresh c.handsOn c.again)) : c.holds p s := by
  simp only [joinedFacts, Bool.and_eq_true, beq_iff_eq, Array.all_eq_true_iff_forall_mem, List.all_eq_true, decide_eq_true_eq] at closed
  obtain ⟨⟨⟨⟨⟨⟨⟨⟨⟨⟨⟨⟨⟨⟨⟨⟨⟨⟨⟨⟨⟨⟨⟨⟨⟨⟨⟨⟨⟨⟨⟨c1, c2⟩, c3⟩, c4⟩, c5⟩, c6⟩, c7⟩, c8⟩, c9⟩, c10⟩, c11⟩, c12⟩, c13⟩, c14⟩, c15⟩, c16⟩, c17⟩, c17b⟩, c18⟩, c19⟩, c20⟩, c21⟩, c22⟩, c23⟩, c23b⟩, c24⟩, c24b⟩, c24c⟩, c25⟩, c26⟩, c27⟩, c28⟩ := closed
  have told : c.startTold p.checked.prog := by unfold OpenClaim.startTold; rw [hstart]; exact ⟨hin, hun, hi4⟩
  have fits : c.startFits p.checked.prog := by unfold OpenClaim.startFits; rw [hstart]; exact c24
  have calm : ∀ os : Os, Stop.quiet p.checked.prog os := fun os k hk => by rw [c9] at hk; cases hk
  refine ⟨c1, hn, hs, hsp, c2, c3, fits, told, f, fn, hfn, hf, ⟨c4, c19⟩, fun hb => by (rw [hnb] at hb; cases hb), by (unfold OpenClaim.namedList; rw [hfo]; exact c5), hinst, hwrap,
    c6.trans c7.symm, ⟨c8.trans c9.symm, by (unfold Program.envWorded; rw [c9]; rfl), c23b⟩, c10, c11, c12, c13, c14, ⟨c15, c27, c28⟩, ⟨c16, c20⟩, ⟨c17, c21, c25, c26⟩, ⟨c22, c24b, c24c, c17b⟩,
    ?_, fun n hn' => varReadable_some (c18 n hn'), ⟨_, by (unfold OpenClaim.world; rw [hout, hstart]; exact WideRow.started_initial), calm _⟩, [], by (unfold OpenClaim.lists; rw [hfo]), fun os st _ H enc inj => ?_⟩
  · rw [hout, hnar]
    cases hsh : c.shortTexts with
    | none => simp
    | some _ => rw [hsh] at c23; cases c23
  · have st' : os.Started := by unfold OpenClaim.world at st; rw [hout, hstart] at st; exact st
    have key := fun F => h os st' H enc inj F c24
    rw [OpenClaim.post_not_still hstill]
    unfold OpenClaim.form
    rw [hstart, c6]
    intro F
    have a1 : c.okInput = Input.okWide := by unfold OpenClaim.okInput; rw [hnb]
    have a2 : c.atReturn p.checked.prog = leavingAtReturn p.checked.prog := by unfold OpenClaim.atReturn; rw [hlv]
    have a3 : c.always p.checked.prog [] = nothingAlways := by unfold OpenClaim.always; rw [hfo]
    have a4 : s.post enc p.checked.prog fn F c.outside c.apart c.fresh c.handsOn c.again = (s.at F).post enc p.checked.prog fn c.apart c.fresh c.handsOn c.again := by rw [hout]; rfl
    rw [a1, a2, a3]
    show ReturnsInOpen _ _ _ _ _ _ _ _ (s.post enc p.checked.prog fn F c.outside c.apart c.fresh c.handsOn c.again) _ _
    rw [a4]
    exact key F
end Go.Proofs.YtpobhljcainmdaaGreat
