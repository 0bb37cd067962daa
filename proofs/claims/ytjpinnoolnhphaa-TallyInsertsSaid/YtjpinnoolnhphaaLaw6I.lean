/- The walk of the law TallyInserts. -/
import Derived.Test.YtjpinnoolnhphaaMade6
import Derived.Deep.RegionHeld3
namespace Go.Proofs.Ytjpinnoolnhphaa
open Go.RowKit
set_option linter.unusedVariables false
set_option linter.unusedSimpArgs false
set_option maxRecDepth 100000 in
set_option maxHeartbeats 2000000 in
theorem tallyInserts_walk (a b n : Int) (W : World) (wa : (Lit.int .i64 a).wf = true) (wb : (Lit.int .i64 b).wf = true) (wn : (Lit.int .i64 n).wf = true) :
    Calls Try.prog 3 #[.int .i64 a, .int .i64 b, .int .i64 n] W fun e w' => e = .returned (.bool true) ∧ Below W.heap.size W w' := by
  have h1 := fun w => made_any a b w (wf_bd wa).1 (wf_bd wa).2 (wf_bd wb).1 (wf_bd wb).2
  obtain ⟨n0, n1⟩ := wf_bd wn
  have m1 := mask16 n
  have m2 := mask4 (n / 65536)
  have e0 : 0 ≤ n % 65536 := by omega
  have e1 : n % 65536 ≤ 65535 := by omega
  have e2 : 0 ≤ n / 65536 % 16 := by omega
  have e3 : n / 65536 % 16 ≤ 15 := by omega
  have h2 := fun w => bitem_any (n % 65536) w (by omega) (by omega)
  have hks := keyS_bd (n % 65536)
  have hwt := wtS_bd (n % 65536)
  generalize keyS (n % 65536) = K at *
  generalize wtS (n % 65536) = x at *
  generalize n % 65536 = p at *
  generalize n / 65536 % 16 = q at *
  clear wa wb wn
  go_enter Try.func3, Try.ntmps3
  go_wp2_with fail
  go_at_call 8
  refine (h1 _).mono ?_
  rintro e w2 ⟨T, I, s, ⟨T0, T1⟩, ⟨I0, I1⟩, rfl, B2⟩
  clear h1
  go_wp2_with fail
  go_at_call 9
  refine (h2 _).mono ?_
  rintro e w3 ⟨rfl, b3⟩
  have B3 := bgo B2 b3
  clear h2 B2 b3
  obtain ⟨y, hy⟩ : ∃ y : Int, y = if q = 0 then n / 1048576 else x := ⟨_, rfl⟩
  have hyb : -9223372036854775808 ≤ y ∧ y ≤ 9223372036854775807 := by rw [hy]; split <;> omega
  have h1 := fun w => tins_any T I y s K w T0 T1 I0 I1 hyb.1 hyb.2 (by unfold maxLen; omega)
  have h2 := fun w => rtins_any T I y s K w T0 T1 I0 I1 hyb.1 hyb.2 (by unfold maxLen; omega)
  have h3 := fun w => tval_any T I s w T0 T1 I0 I1
  have h4 := fun w => rtval_any T I s w T0 T1 I0 I1
  generalize (insT T I s (itemE (byt K) y) y).1 = M1 at *
  generalize (insT T I s (itemE (byt K) y) y).2.1 = M2 at *
  generalize (insT T I s (itemE (byt K) y) y).2.2.1 = M3 at *
  generalize (insT T I s (itemE (byt K) y) y).2.2.2 = M4 at *
  generalize valT T I = V at *
  clear hyb
  by_cases hq : q = 0
  · subst hq
    rw [if_pos rfl] at hy
    subst hy
    go_wp2_with (first
      | (go_at_call 10; ((with_reducible refine (h1 _).mono ?_); rintro e w5 ⟨rfl, hb5⟩; have B5 := bgo (bal (bal B3 _) _) hb5; obtain ⟨hc5, hf5⟩ := bcell hb5; obtain ⟨hx5, hy5⟩ := room1 (n := w3.heap.size) (m := w5.heap.size) (by have := hb5.size; simp at this; omega); clear hb5))
      | (go_at_call 11; ((with_reducible refine (h2 _).mono ?_); rintro e w6 ⟨rfl, hb6⟩; have B6 := bgo (bal B5 _) hb6; obtain ⟨hc6, hf6⟩ := bcell hb6; have hx6 : w5.heap.size < w6.heap.size := (by have := hb6.size; simp at this; omega); clear hb6)))
    have hx7 : w3.heap.size < w6.heap.size := by omega
    have hq0 : (w6.alloc (Obj.cells #[Value.int IntKind.i64 M1, Value.int IntKind.i64 M2, Value.bool M3] 23)).cell? ⟨w3.heap.size, 0, none⟩ = some (.int .i64 T) := by go_simp
    have hq1 : (w6.alloc (Obj.cells #[Value.int IntKind.i64 M1, Value.int IntKind.i64 M2, Value.bool M3] 23)).cell? ⟨w3.heap.size, 1, none⟩ = some (.int .i64 I) := by go_simp
    have hq2 : (w6.alloc (Obj.cells #[Value.int IntKind.i64 M1, Value.int IntKind.i64 M2, Value.bool M3] 23)).cell? ⟨w3.heap.size, 2, none⟩ = some (.bool s) := by go_simp
    have hq3 : (w6.alloc (Obj.cells #[Value.int IntKind.i64 M1, Value.int IntKind.i64 M2, Value.bool M3] 23)).cell? ⟨w5.heap.size, 0, none⟩ = some (.int .i64 M1) := by go_simp
    have hq4 : (w6.alloc (Obj.cells #[Value.int IntKind.i64 M1, Value.int IntKind.i64 M2, Value.bool M3] 23)).cell? ⟨w5.heap.size, 1, none⟩ = some (.int .i64 M2) := by go_simp
    have hq5 : (w6.alloc (Obj.cells #[Value.int IntKind.i64 M1, Value.int IntKind.i64 M2, Value.bool M3] 23)).cell? ⟨w5.heap.size, 2, none⟩ = some (.bool M3) := by go_simp
    have hq6 : (w6.alloc (Obj.cells #[Value.int IntKind.i64 M1, Value.int IntKind.i64 M2, Value.bool M3] 23)).cell? ⟨w6.heap.size, 0, none⟩ = some (.int .i64 M1) := by go_simp
    have hq7 : (w6.alloc (Obj.cells #[Value.int IntKind.i64 M1, Value.int IntKind.i64 M2, Value.bool M3] 23)).cell? ⟨w6.heap.size, 1, none⟩ = some (.int .i64 M2) := by go_simp
    have hq8 : (w6.alloc (Obj.cells #[Value.int IntKind.i64 M1, Value.int IntKind.i64 M2, Value.bool M3] 23)).cell? ⟨w6.heap.size, 2, none⟩ = some (.bool M3) := by go_simp
    have B7 := bal B6 (Obj.cells #[Value.int IntKind.i64 M1, Value.int IntKind.i64 M2, Value.bool M3] 23)
    have g3 : w3.heap.size < (w6.alloc (Obj.cells #[Value.int IntKind.i64 M1, Value.int IntKind.i64 M2, Value.bool M3] 23)).heap.size := by simp; omega
    have g5 : w5.heap.size < (w6.alloc (Obj.cells #[Value.int IntKind.i64 M1, Value.int IntKind.i64 M2, Value.bool M3] 23)).heap.size := by simp; omega
    have g6 : w6.heap.size < (w6.alloc (Obj.cells #[Value.int IntKind.i64 M1, Value.int IntKind.i64 M2, Value.bool M3] 23)).heap.size := by simp
    generalize w6.alloc (Obj.cells #[Value.int IntKind.i64 M1, Value.int IntKind.i64 M2, Value.bool M3] 23) = X at *
    clear hc5 hf5 hc6 hf6 hx5 hy5 hx6 hx7 B3 B5 B6 h1 h2
    have SB : ∀ w w' : World, (Below X.heap.size X w ∧ w.cell? ⟨w3.heap.size, 0, none⟩ = some (.int .i64 T) ∧ w.cell? ⟨w3.heap.size, 1, none⟩ = some (.int .i64 I) ∧ w.cell? ⟨w3.heap.size, 2, none⟩ = some (.bool s) ∧ w.cell? ⟨w5.heap.size, 0, none⟩ = some (.int .i64 M1) ∧ w.cell? ⟨w5.heap.size, 1, none⟩ = some (.int .i64 M2) ∧ w.cell? ⟨w5.heap.size, 2, none⟩ = some (.bool M3) ∧ w.cell? ⟨w6.heap.size, 0, none⟩ = some (.int .i64 M1) ∧ w.cell? ⟨w6.heap.size, 1, none⟩ = some (.int .i64 M2) ∧ w.cell? ⟨w6.heap.size, 2, none⟩ = some (.bool M3)) → Below w.heap.size w w' → (Below X.heap.size X w' ∧ w'.cell? ⟨w3.heap.size, 0, none⟩ = some (.int .i64 T) ∧ w'.cell? ⟨w3.heap.size, 1, none⟩ = some (.int .i64 I) ∧ w'.cell? ⟨w3.heap.size, 2, none⟩ = some (.bool s) ∧ w'.cell? ⟨w5.heap.size, 0, none⟩ = some (.int .i64 M1) ∧ w'.cell? ⟨w5.heap.size, 1, none⟩ = some (.int .i64 M2) ∧ w'.cell? ⟨w5.heap.size, 2, none⟩ = some (.bool M3) ∧ w'.cell? ⟨w6.heap.size, 0, none⟩ = some (.int .i64 M1) ∧ w'.cell? ⟨w6.heap.size, 1, none⟩ = some (.int .i64 M2) ∧ w'.cell? ⟨w6.heap.size, 2, none⟩ = some (.bool M3)) := by
      rintro w w' ⟨z, z0, z1, z2, z3, z4, z5, z6, z7, z8⟩ h
      have hz := z.size
      have f : ∀ k j, k < w.heap.size → w'.cell? ⟨k, j, none⟩ = w.cell? ⟨k, j, none⟩ := fun k j hk => h.cell (p := ⟨k, j, none⟩) hk
      exact ⟨bgo z h, (f _ _ (by omega)).trans z0, (f _ _ (by omega)).trans z1, (f _ _ (by omega)).trans z2, (f _ _ (by omega)).trans z3, (f _ _ (by omega)).trans z4, (f _ _ (by omega)).trans z5, (f _ _ (by omega)).trans z6, (f _ _ (by omega)).trans z7, (f _ _ (by omega)).trans z8⟩
    have HB := Lib.hid B7
    have G := Lib.hid (And.intro g3 (And.intro g5 g6))
    clear B7 g3 g5 g6
    go_region_held3 (fun w' => Below X.heap.size X w' ∧ w'.cell? ⟨w3.heap.size, 0, none⟩ = some (.int .i64 T) ∧ w'.cell? ⟨w3.heap.size, 1, none⟩ = some (.int .i64 I) ∧ w'.cell? ⟨w3.heap.size, 2, none⟩ = some (.bool s) ∧ w'.cell? ⟨w5.heap.size, 0, none⟩ = some (.int .i64 M1) ∧ w'.cell? ⟨w5.heap.size, 1, none⟩ = some (.int .i64 M2) ∧ w'.cell? ⟨w5.heap.size, 2, none⟩ = some (.bool M3) ∧ w'.cell? ⟨w6.heap.size, 0, none⟩ = some (.int .i64 M1) ∧ w'.cell? ⟨w6.heap.size, 1, none⟩ = some (.int .i64 M2) ∧ w'.cell? ⟨w6.heap.size, 2, none⟩ = some (.bool M3)) (first | assumption | exact ⟨(Below.refl _ _).drew, hq0, hq1, hq2, hq3, hq4, hq5, hq6, hq7, hq8⟩) (first
      | (go_at_call 12; ((with_reducible refine (h3 _).mono ?_); rintro e w' ⟨rfl, hbl⟩; have S1 := SB _ w' (by assumption) hbl; clear hbl))
      | (go_at_call 13; ((with_reducible refine (h4 _).mono ?_); rintro e w' ⟨rfl, hbl⟩; have S1 := SB _ w' (by assumption) hbl; clear hbl))
      | (go_at_call 14; ((with_reducible refine (known_any _).mono ?_); rintro e w' ⟨rfl, hbl⟩; have S1 := SB _ w' (by assumption) hbl; clear hbl)))
    go_wp2
    go_ret
    rename_i hS
    exact ⟨rfl, bgo HB.out hS.1⟩
  · rw [if_neg hq] at hy
    subst hy
    have hq' : (q == 0) = false := by simp [hq]
    go_wp2_with (first
      | (go_at_call 10; ((with_reducible refine (h1 _).mono ?_); rintro e w5 ⟨rfl, hb5⟩; have B5 := bgo (bal (bal B3 _) _) hb5; obtain ⟨hc5, hf5⟩ := bcell hb5; obtain ⟨hx5, hy5⟩ := room1 (n := w3.heap.size) (m := w5.heap.size) (by have := hb5.size; simp at this; omega); clear hb5))
      | (go_at_call 11; ((with_reducible refine (h2 _).mono ?_); rintro e w6 ⟨rfl, hb6⟩; have B6 := bgo (bal B5 _) hb6; obtain ⟨hc6, hf6⟩ := bcell hb6; have hx6 : w5.heap.size < w6.heap.size := (by have := hb6.size; simp at this; omega); clear hb6)))
    have hx7 : w3.heap.size < w6.heap.size := by omega
    have hq0 : (w6.alloc (Obj.cells #[Value.int IntKind.i64 M1, Value.int IntKind.i64 M2, Value.bool M3] 23)).cell? ⟨w3.heap.size, 0, none⟩ = some (.int .i64 T) := by go_simp
    have hq1 : (w6.alloc (Obj.cells #[Value.int IntKind.i64 M1, Value.int IntKind.i64 M2, Value.bool M3] 23)).cell? ⟨w3.heap.size, 1, none⟩ = some (.int .i64 I) := by go_simp
    have hq2 : (w6.alloc (Obj.cells #[Value.int IntKind.i64 M1, Value.int IntKind.i64 M2, Value.bool M3] 23)).cell? ⟨w3.heap.size, 2, none⟩ = some (.bool s) := by go_simp
    have hq3 : (w6.alloc (Obj.cells #[Value.int IntKind.i64 M1, Value.int IntKind.i64 M2, Value.bool M3] 23)).cell? ⟨w5.heap.size, 0, none⟩ = some (.int .i64 M1) := by go_simp
    have hq4 : (w6.alloc (Obj.cells #[Value.int IntKind.i64 M1, Value.int IntKind.i64 M2, Value.bool M3] 23)).cell? ⟨w5.heap.size, 1, none⟩ = some (.int .i64 M2) := by go_simp
    have hq5 : (w6.alloc (Obj.cells #[Value.int IntKind.i64 M1, Value.int IntKind.i64 M2, Value.bool M3] 23)).cell? ⟨w5.heap.size, 2, none⟩ = some (.bool M3) := by go_simp
    have hq6 : (w6.alloc (Obj.cells #[Value.int IntKind.i64 M1, Value.int IntKind.i64 M2, Value.bool M3] 23)).cell? ⟨w6.heap.size, 0, none⟩ = some (.int .i64 M1) := by go_simp
    have hq7 : (w6.alloc (Obj.cells #[Value.int IntKind.i64 M1, Value.int IntKind.i64 M2, Value.bool M3] 23)).cell? ⟨w6.heap.size, 1, none⟩ = some (.int .i64 M2) := by go_simp
    have hq8 : (w6.alloc (Obj.cells #[Value.int IntKind.i64 M1, Value.int IntKind.i64 M2, Value.bool M3] 23)).cell? ⟨w6.heap.size, 2, none⟩ = some (.bool M3) := by go_simp
    have B7 := bal B6 (Obj.cells #[Value.int IntKind.i64 M1, Value.int IntKind.i64 M2, Value.bool M3] 23)
    have g3 : w3.heap.size < (w6.alloc (Obj.cells #[Value.int IntKind.i64 M1, Value.int IntKind.i64 M2, Value.bool M3] 23)).heap.size := by simp; omega
    have g5 : w5.heap.size < (w6.alloc (Obj.cells #[Value.int IntKind.i64 M1, Value.int IntKind.i64 M2, Value.bool M3] 23)).heap.size := by simp; omega
    have g6 : w6.heap.size < (w6.alloc (Obj.cells #[Value.int IntKind.i64 M1, Value.int IntKind.i64 M2, Value.bool M3] 23)).heap.size := by simp
    generalize w6.alloc (Obj.cells #[Value.int IntKind.i64 M1, Value.int IntKind.i64 M2, Value.bool M3] 23) = X at *
    clear hc5 hf5 hc6 hf6 hx5 hy5 hx6 hx7 B3 B5 B6 h1 h2
    have SB : ∀ w w' : World, (Below X.heap.size X w ∧ w.cell? ⟨w3.heap.size, 0, none⟩ = some (.int .i64 T) ∧ w.cell? ⟨w3.heap.size, 1, none⟩ = some (.int .i64 I) ∧ w.cell? ⟨w3.heap.size, 2, none⟩ = some (.bool s) ∧ w.cell? ⟨w5.heap.size, 0, none⟩ = some (.int .i64 M1) ∧ w.cell? ⟨w5.heap.size, 1, none⟩ = some (.int .i64 M2) ∧ w.cell? ⟨w5.heap.size, 2, none⟩ = some (.bool M3) ∧ w.cell? ⟨w6.heap.size, 0, none⟩ = some (.int .i64 M1) ∧ w.cell? ⟨w6.heap.size, 1, none⟩ = some (.int .i64 M2) ∧ w.cell? ⟨w6.heap.size, 2, none⟩ = some (.bool M3)) → Below w.heap.size w w' → (Below X.heap.size X w' ∧ w'.cell? ⟨w3.heap.size, 0, none⟩ = some (.int .i64 T) ∧ w'.cell? ⟨w3.heap.size, 1, none⟩ = some (.int .i64 I) ∧ w'.cell? ⟨w3.heap.size, 2, none⟩ = some (.bool s) ∧ w'.cell? ⟨w5.heap.size, 0, none⟩ = some (.int .i64 M1) ∧ w'.cell? ⟨w5.heap.size, 1, none⟩ = some (.int .i64 M2) ∧ w'.cell? ⟨w5.heap.size, 2, none⟩ = some (.bool M3) ∧ w'.cell? ⟨w6.heap.size, 0, none⟩ = some (.int .i64 M1) ∧ w'.cell? ⟨w6.heap.size, 1, none⟩ = some (.int .i64 M2) ∧ w'.cell? ⟨w6.heap.size, 2, none⟩ = some (.bool M3)) := by
      rintro w w' ⟨z, z0, z1, z2, z3, z4, z5, z6, z7, z8⟩ h
      have hz := z.size
      have f : ∀ k j, k < w.heap.size → w'.cell? ⟨k, j, none⟩ = w.cell? ⟨k, j, none⟩ := fun k j hk => h.cell (p := ⟨k, j, none⟩) hk
      exact ⟨bgo z h, (f _ _ (by omega)).trans z0, (f _ _ (by omega)).trans z1, (f _ _ (by omega)).trans z2, (f _ _ (by omega)).trans z3, (f _ _ (by omega)).trans z4, (f _ _ (by omega)).trans z5, (f _ _ (by omega)).trans z6, (f _ _ (by omega)).trans z7, (f _ _ (by omega)).trans z8⟩
    have HB := Lib.hid B7
    have G := Lib.hid (And.intro g3 (And.intro g5 g6))
    clear B7 g3 g5 g6
    go_region_held3 (fun w' => Below X.heap.size X w' ∧ w'.cell? ⟨w3.heap.size, 0, none⟩ = some (.int .i64 T) ∧ w'.cell? ⟨w3.heap.size, 1, none⟩ = some (.int .i64 I) ∧ w'.cell? ⟨w3.heap.size, 2, none⟩ = some (.bool s) ∧ w'.cell? ⟨w5.heap.size, 0, none⟩ = some (.int .i64 M1) ∧ w'.cell? ⟨w5.heap.size, 1, none⟩ = some (.int .i64 M2) ∧ w'.cell? ⟨w5.heap.size, 2, none⟩ = some (.bool M3) ∧ w'.cell? ⟨w6.heap.size, 0, none⟩ = some (.int .i64 M1) ∧ w'.cell? ⟨w6.heap.size, 1, none⟩ = some (.int .i64 M2) ∧ w'.cell? ⟨w6.heap.size, 2, none⟩ = some (.bool M3)) (first | assumption | exact ⟨(Below.refl _ _).drew, hq0, hq1, hq2, hq3, hq4, hq5, hq6, hq7, hq8⟩) (first
      | (go_at_call 12; ((with_reducible refine (h3 _).mono ?_); rintro e w' ⟨rfl, hbl⟩; have S1 := SB _ w' (by assumption) hbl; clear hbl))
      | (go_at_call 13; ((with_reducible refine (h4 _).mono ?_); rintro e w' ⟨rfl, hbl⟩; have S1 := SB _ w' (by assumption) hbl; clear hbl))
      | (go_at_call 14; ((with_reducible refine (known_any _).mono ?_); rintro e w' ⟨rfl, hbl⟩; have S1 := SB _ w' (by assumption) hbl; clear hbl)))
    go_wp2
    go_ret
    rename_i hS
    exact ⟨rfl, bgo HB.out hS.1⟩
end Go.Proofs.Ytjpinnoolnhphaa
