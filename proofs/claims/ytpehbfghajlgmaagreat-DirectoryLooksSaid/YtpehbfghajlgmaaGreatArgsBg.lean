/- What a walk is told of a slice of bindings that came in. -/
import Derived.Test.YtpehbfghajlgmaaGreatBgM
import Derived.Deep.SlicePairs
import Derived.ChangeArms
import Derived.OpenShut
namespace Go.Proofs.YtpehbfghajlgmaaGreat
open Go.RowKit Go.ChangeShapes Go.WideShapes Go.Deep
set_option linter.unusedVariables false
set_option linter.unusedSimpArgs false
def InBg (w : World) (a : Option Addr) (len cap : Nat) (zs : List Bg) : Prop :=
  len ≤ cap ∧ cap ≤ maxLen ∧ zs.length = cap ∧ BgOk zs ∧ (0 < cap → ∃ b off, a = some ⟨b, off, none⟩ ∧ b < w.heap.size ∧ ∀ j, j < cap → At4Bg (zs.getD j Bg.z) b (off + j * 4) w)
theorem bg_list {p : Nat → Bg → Prop} : ∀ {m : Nat}, (∀ i, i < m → ∃ q : Bg, q.ok ∧ p i q) → ∃ zs : List Bg, zs.length = m ∧ BgOk zs ∧ ∀ i, i < m → p i (zs.getD i Bg.z)
  | 0, _ => ⟨[], rfl, BgOk.nil, fun i hi => by omega⟩
  | k + 1, h => by
    obtain ⟨zs, z1, z2, z3⟩ := bg_list (m := k) (fun i hi => h i (by omega))
    obtain ⟨q, q1, q2⟩ := h k (by omega)
    refine ⟨zs ++ [q], by simp [z1], z2.app (BgOk.one q1), fun i hi => ?_⟩
    rcases Nat.lt_or_ge i k with h' | h'
    · have e : (zs ++ [q]).getD i Bg.z = zs.getD i Bg.z := by simp [List.getD, List.getElem?_append_left (show i < zs.length by omega)]
      rw [e]
      exact z3 i h'
    · obtain rfl : i = k := by omega
      have e : (zs ++ [q]).getD i Bg.z = q := by subst z1; simp [List.getD]
      rw [e]
      exact q2
theorem inBg_of {H : Type} {enc : TypeId × Value → H} {P : Program} {w : World} {t e : TypeId} {f0 f1 f2 f3 : Field} {fuel : Nat} {x : DataW H × List MemPlace} {a : Option Addr} {len cap : Nat}
    (ht : P.underlying t = some (.slice e)) (he : P.underlying e = some (.struct #[f0, f1, f2, f3])) (ce : P.cellsOf e = 4) (o0 : f0.offset = 0) (o1 : f1.offset = 1) (o2 : f2.offset = 2) (o3 : f3.offset = 3) (c0 : P.cellsOf f0.type = 1) (c1 : P.cellsOf f1.type = 1) (c2 : P.cellsOf f2.type = 1) (c3 : P.cellsOf f3.type = 1)
    (u0 : P.underlying f0.type = some .string) (u1 : P.underlying f1.type = some (.int .i64)) (u2 : P.underlying f2.type = some (.int .i64)) (u3 : P.underlying f3.type = some (.int .i64))
    (h : DataW.trod enc P w 0 (fun _ => true) true fuel t [.slice a len cap] = some x) : ∃ zs, InBg w a len cap zs := by
  rcases open_slice ht h with ⟨hcs, _⟩ | ⟨y, l, c, m, n, D, Pl, hcs, _, hl, hm, hmm, _, hall⟩
  · simp only [List.cons.injEq, Value.slice.injEq, and_true] at hcs
    obtain ⟨rfl, rfl, rfl⟩ := hcs
    exact ⟨[], by omega, by simp [maxLen], rfl, BgOk.nil, fun h => by omega⟩
  · simp only [List.cons.injEq, Value.slice.injEq, and_true] at hcs
    obtain ⟨rfl, rfl, rfl⟩ := hcs
    have hmc : m = cap := by simpa using hmm
    subst hmc
    have each : ∀ i, i < m → ∃ q : Bg, q.ok ∧ w.cell? (y.add (i * 4)) = some (.string q.n) ∧ w.cell? (y.add (i * 4 + 1)) = some (.int .i64 q.r) ∧ w.cell? (y.add (i * 4 + 2)) = some (.int .i64 q.k) ∧ w.cell? (y.add (i * 4 + 3)) = some (.int .i64 q.s) := by
      intro i hi
      obtain ⟨cs', h1, h2⟩ := hall i hi
      rw [ce] at h1
      obtain ⟨_, hlen, hcell⟩ := World.cells?_some h1
      obtain ⟨xs, k, hk, hxy, _, hxl, hf⟩ := DataW.trod_struct he h2
      match xs, hxl, cs', hlen with
      | [y0, y1, y2, y3], _, [v0, v1, v2, v3], _ =>
        have g0 := hf 0 f0 rfl
        have g1 := hf 1 f1 rfl
        have g2 := hf 2 f2 rfl
        have g3 := hf 3 f3 rfl
        simp [o0, o1, o2, o3, c0, c1, c2, c3] at g0 g1 g2 g3
        have e0 := hcell 0 (by omega)
        have e1 := hcell 1 (by omega)
        have e2 := hcell 2 (by omega)
        have e3' := hcell 3 (by omega)
        rw [add_add] at e0 e1 e2 e3'
        obtain ⟨n0, q0, _, w0⟩ := DataW.trod_string u0 g0
        obtain ⟨n1, q1, _, w1⟩ := DataW.trod_int u1 g1
        obtain ⟨n2, q2, _, w2⟩ := DataW.trod_int u2 g2
        obtain ⟨n3, q3, _, w3⟩ := DataW.trod_int u3 g3
        simp only [List.cons.injEq, and_true] at q0 q1 q2 q3
        subst q0 q1 q2 q3
        exact ⟨⟨n0, n1, n2, n3⟩, ⟨w0, wf_bd w1, wf_bd w2, wf_bd w3⟩, by simpa using e0, by simpa using e1, by simpa using e2, by simpa using e3'⟩
    obtain ⟨zs, z1, z2, z3⟩ := bg_list each
    refine ⟨zs, hl, hm, z1, z2, fun hp => ?_⟩
    obtain ⟨b, off, spot⟩ := y
    have hspot : spot = none := by simpa [Addr.add] using World.cell?_spot (z3 0 hp).1
    subst hspot
    have hx : ∀ j, j < m → At4Bg (zs.getD j Bg.z) b (off + j * 4) w := fun j hj => by
      obtain ⟨g1, g2, g3, g4⟩ := z3 j hj
      rw [add_plain] at g1 g2 g3 g4
      exact ⟨g1, by rw [Nat.add_assoc]; exact g2, by rw [Nat.add_assoc]; exact g3, by rw [Nat.add_assoc]; exact g4⟩
    exact ⟨b, off, rfl, block_lt_of_cell (hx 0 hp).1, hx⟩
theorem inBg_rd {w : World} {a : Option Addr} {len cap : Nat} {zs : List Bg} (h : InBg w a len cap zs) : RdBg (zs.take len) (.slice a len cap) w := by
  obtain ⟨h1, h2, h3, h4, h5⟩ := h
  have hl : (zs.take len).length = len := by rw [List.length_take]; omega
  refine ⟨fun x hx => h4 x (List.mem_of_mem_take hx), a, cap, by rw [hl], by rw [hl]; exact h1, h2, fun hp => ?_⟩
  rw [hl] at hp
  obtain ⟨b, off, rfl, hb, hc⟩ := h5 (by omega)
  refine ⟨b, off, rfl, hb, fun j hj => ?_⟩
  rw [hl] at hj
  have e : (zs.take len).getD j Bg.z = zs.getD j Bg.z := by simp [List.getD, List.getElem?_take, hj]
  rw [e]
  exact hc j (by omega)
end Go.Proofs.YtpehbfghajlgmaaGreat
