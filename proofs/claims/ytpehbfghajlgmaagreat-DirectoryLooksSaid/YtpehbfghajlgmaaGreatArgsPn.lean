/- What a walk is told of a slice of pins that came in. -/
import Derived.Test.YtpehbfghajlgmaaGreatPnM
import Derived.Deep.SlicePairs
import Derived.ChangeArms
import Derived.OpenShut
namespace Go.Proofs.YtpehbfghajlgmaaGreat
open Go.RowKit Go.ChangeShapes Go.WideShapes Go.Deep
set_option linter.unusedVariables false
set_option linter.unusedSimpArgs false
def InPn (w : World) (a : Option Addr) (len cap : Nat) (zs : List Pn) : Prop :=
  len ≤ cap ∧ cap ≤ maxLen ∧ zs.length = cap ∧ PnOk zs ∧ (0 < cap → ∃ b off, a = some ⟨b, off, none⟩ ∧ b < w.heap.size ∧ ∀ j, j < cap → At2Pn (zs.getD j Pn.z) b (off + j * 2) w)
theorem pn_list {p : Nat → Pn → Prop} : ∀ {m : Nat}, (∀ i, i < m → ∃ q : Pn, q.ok ∧ p i q) → ∃ zs : List Pn, zs.length = m ∧ PnOk zs ∧ ∀ i, i < m → p i (zs.getD i Pn.z)
  | 0, _ => ⟨[], rfl, PnOk.nil, fun i hi => by omega⟩
  | k + 1, h => by
    obtain ⟨zs, z1, z2, z3⟩ := pn_list (m := k) (fun i hi => h i (by omega))
    obtain ⟨q, q1, q2⟩ := h k (by omega)
    refine ⟨zs ++ [q], by simp [z1], z2.app (PnOk.one q1), fun i hi => ?_⟩
    rcases Nat.lt_or_ge i k with h' | h'
    · have e : (zs ++ [q]).getD i Pn.z = zs.getD i Pn.z := by simp [List.getD, List.getElem?_append_left (show i < zs.length by omega)]
      rw [e]
      exact z3 i h'
    · obtain rfl : i = k := by omega
      have e : (zs ++ [q]).getD i Pn.z = q := by subst z1; simp [List.getD]
      rw [e]
      exact q2
theorem inPn_of {H : Type} {enc : TypeId × Value → H} {P : Program} {w : World} {t e : TypeId} {f0 f1 : Field} {fuel : Nat} {x : DataW H × List MemPlace} {a : Option Addr} {len cap : Nat}
    (ht : P.underlying t = some (.slice e)) (he : P.underlying e = some (.struct #[f0, f1])) (ce : P.cellsOf e = 2) (o0 : f0.offset = 0) (o1 : f1.offset = 1) (c0 : P.cellsOf f0.type = 1) (c1 : P.cellsOf f1.type = 1)
    (u0 : P.underlying f0.type = some (.int .i64)) (u1 : P.underlying f1.type = some (.int .i64))
    (h : DataW.trod enc P w 0 (fun _ => true) true fuel t [.slice a len cap] = some x) : ∃ zs, InPn w a len cap zs := by
  rcases open_slice_pairs ht he ce o0 o1 c0 c1 h with ⟨hcs, _⟩ | ⟨y, l, c, m, n, V0, V1, D0, D1, P0, P1, hcs, _, hl, hm, hmm, _, hall⟩
  · simp only [List.cons.injEq, Value.slice.injEq, and_true] at hcs
    obtain ⟨rfl, rfl, rfl⟩ := hcs
    exact ⟨[], by omega, by simp [maxLen], rfl, PnOk.nil, fun h => by omega⟩
  · simp only [List.cons.injEq, Value.slice.injEq, and_true] at hcs
    obtain ⟨rfl, rfl, rfl⟩ := hcs
    have hmc : m = cap := by simpa using hmm
    subst hmc
    have each : ∀ i, i < m → ∃ q : Pn, q.ok ∧ w.cell? (y.add (i * 2)) = some (.int .i64 q.m) ∧ w.cell? (y.add (i * 2 + 1)) = some (.int .i64 q.n) := by
      intro i hi
      obtain ⟨h1, h2, h3, h4⟩ := hall i hi
      obtain ⟨n0, e0, _, w0⟩ := DataW.trod_int u0 h3
      obtain ⟨n1, e1, _, w1⟩ := DataW.trod_int u1 h4
      simp only [List.cons.injEq, and_true] at e0 e1
      rw [e0] at h1
      rw [e1] at h2
      exact ⟨⟨n0, n1⟩, ⟨wf_bd w0, wf_bd w1⟩, h1, h2⟩
    obtain ⟨zs, z1, z2, z3⟩ := pn_list each
    refine ⟨zs, hl, hm, z1, z2, fun hp => ?_⟩
    obtain ⟨b, off, spot⟩ := y
    have hspot : spot = none := by simpa [Addr.add] using World.cell?_spot (z3 0 hp).1
    subst hspot
    have hx : ∀ j, j < m → At2Pn (zs.getD j Pn.z) b (off + j * 2) w := fun j hj => by
      obtain ⟨g1, g2⟩ := z3 j hj
      rw [add_plain] at g1 g2
      exact ⟨g1, by rw [Nat.add_assoc]; exact g2⟩
    exact ⟨b, off, rfl, block_lt_of_cell (hx 0 hp).1, hx⟩
theorem inPn_rd {w : World} {a : Option Addr} {len cap : Nat} {zs : List Pn} (h : InPn w a len cap zs) : RdPn (zs.take len) (.slice a len cap) w := by
  obtain ⟨h1, h2, h3, h4, h5⟩ := h
  have hl : (zs.take len).length = len := by rw [List.length_take]; omega
  refine ⟨fun x hx => h4 x (List.mem_of_mem_take hx), a, cap, by rw [hl], by rw [hl]; exact h1, h2, fun hp => ?_⟩
  rw [hl] at hp
  obtain ⟨b, off, rfl, hb, hc⟩ := h5 (by omega)
  refine ⟨b, off, rfl, hb, fun j hj => ?_⟩
  rw [hl] at hj
  have e : (zs.take len).getD j Pn.z = zs.getD j Pn.z := by simp [List.getD, List.getElem?_take, hj]
  rw [e]
  exact hc j (by omega)
end Go.Proofs.YtpehbfghajlgmaaGreat
