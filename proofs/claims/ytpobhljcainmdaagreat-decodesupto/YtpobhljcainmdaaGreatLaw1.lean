/- Proved here: an append that leaves the old slice as it was; two equal messages are the same. -/
import Derived.Test.YtpobhljcainmdaaGreatRef8
import Derived.ArgAppend
namespace Go.Proofs.YtpobhljcainmdaaGreat
open Go.RowKit

theorem row_base {w : World} {B B' e k n : Nat} {v : Value} {xs : List Value} (h : w.ownsRow B e k v n xs) (hB : B' ≤ B) : w.ownsRow B' e k v n xs := by
  refine ⟨h.1, ?_⟩
  rcases h.2 with h0 | ⟨g, cap, cur, hv, hb, rest⟩
  · exact .inl h0
  · exact .inr ⟨g, cap, cur, hv, by omega, rest⟩

/-- The first elements of a row that has grown in its place. -/
theorem row_prefix {w : World} {B e k n m g cap : Nat} {xs news : List Value} (hl : xs.length = n * k) (h : w.ownsRow B e k (.slice (some ⟨g, 0, none⟩) (n + m) cap) (n + m) (xs ++ news)) :
    w.ownsRow B e k (.slice (some ⟨g, 0, none⟩) n cap) n xs := by
  refine ⟨hl, ?_⟩
  rcases h.2 with ⟨h0, _⟩ | ⟨g', cap', cur, hv, hb, hh, hn, hc, hs, ht⟩
  · cases h0
  · cases hv
    refine .inr ⟨g, cap, cur, rfl, hb, hh, by omega, hc, hs, ?_⟩
    have : (cur.toList.take ((n + m) * k)).take (n * k) = (xs ++ news).take (n * k) := by rw [ht]
    rw [List.take_take, Nat.min_eq_left (Nat.mul_le_mul_right k (by omega)), ← hl, List.take_left] at this
    rw [← hl]
    exact this

section
variable {P : Program}
theorem wpList_append_keep (w : World) {ops : Array Oper} {rest : List Oper} {o : Oper} {a : Act} {Q : Exit → Act → World → Prop} (hgd : o.guard = none) (s x : Operand) (t : TypeId)
    (ho : o.op = .call { callee := .builtin .append, args := #[s, x], argTypes := #[t, t] })
    (base : Nat) (e : TypeId) (i : TypeInfo) (z : Value) (size bytes : Nat) (ht : P.underlying t = some (.slice e)) (hi : P.info? e = some i) (hz : i.zero = some z)
    (hsize : i.size = size) (hby : i.bytes = bytes) (hzs : z.cells.size = size) (hsz : 0 < size)
    (v : Value) (n : Nat) (xs : List Value) (hs : a.eval s = v) (hown : w.ownsRow base e size v n xs)
    (ad : Addr) (m c : Nat) (news : List Value) (hx : a.eval x = .slice (some ad) m c) (hl : news.length = m * size) (hnews : ∀ j u, news[j]? = some u → w.cell? (ad.add j) = some u) (h1 : ∀ u ∈ news, u.oneCell' = true)
    (hm : 0 < m) (h63 : n + m ≤ maxLen) (hbytes : (n + m) * bytes ≤ 140737488355328) (hbase : base ≤ w.heap.size)
    (h : ∀ g cap w', w'.ownsRow base e size (.slice (some ⟨g, 0, none⟩) (n + m) cap) (n + m) (xs ++ news) → w'.ownsRow base e size v n xs → w.grownBy w' v.ownBlock → wpList P ops Q rest (a.put o.dst (.slice (some ⟨g, 0, none⟩) (n + m) cap)) w') : wpList P ops Q (o :: rest) a w := by
  have hown' := hown
  rcases hown.2 with ⟨hv, h0⟩ | ⟨g, cap, cur, hv, hb, hh, hn, hc, hcs, htk⟩
  · subst hv
    subst h0
    refine wpList_append_grows w hgd s x t ho e i z size bytes ht hi hz hsize hby hzs hsz none 0 0 xs hs (fun _ => ⟨rfl, rfl⟩) hown.1 (fun b hb => by cases hb) ad m c news hx hl hnews h1 (by omega) h63 hbytes ?_
    intro v' w' hr hg
    obtain ⟨g, cap, hv', _, _⟩ := hr.form (by omega)
    subst hv'
    exact h g cap w' (row_base hr hbase) (hown'.kept hg (.inl rfl)) hg
  · subst hv
    by_cases hfit : n + m ≤ cap
    · refine wpList_append_fits w hgd s x t ho base e i size ht hi hsize g n cap xs hs hown' ad m c news hx hl hnews h1 hfit ?_
      intro w' hr hg
      exact h g cap w' hr (row_prefix hown'.1 hr) hg
    · refine wpList_append_grows w hgd s x t ho e i z size bytes ht hi hz hsize hby hzs hsz (some ⟨g, 0, none⟩) n cap xs hs (fun h => by cases h) hown'.1 (fun b hb => by cases hb; exact hown'.cells rfl) ad m c news hx hl hnews h1 (by omega) h63 hbytes ?_
      intro v' w' hr hg
      obtain ⟨g2, cap2, hv', _, _⟩ := hr.form (by omega)
      subst hv'
      exact h g2 cap2 w' (row_base hr hbase) (hown'.kept hg (.inr (by simp [Value.ownBlock]))) ⟨hg.os, hg.tape, hg.output, hg.size, fun k hk _ => hg.block k hk (by simp)⟩
end

theorem beq_list (l : List UInt8) : (l == l) = true := by simp

set_option maxRecDepth 100000 in
set_option maxHeartbeats 1000000 in
theorem same_any (m : Msg) (w : World) :
    Calls Tryz.prog 88 #[.agg (msgL m.wh m.nm m.kd m.fl m.ck m.of m.ln m.dt m.er), .agg (msgL m.wh m.nm m.kd m.fl m.ck m.of m.ln m.dt m.er)] w fun e w' => e = .returned (.bool true) ∧ Below w.heap.size w w' := by
  obtain ⟨wh, nm, kd, fl, ck, of, ln, dt, er⟩ := m
  go_enter Tryz.func88, Tryz.ntmps88
  go_wp2
  go_ret
  exact ⟨rfl, ((Below.refl _ _).alloc (Nat.le_refl _) _).alloc (by simp) _⟩
end Go.Proofs.YtpobhljcainmdaaGreat
