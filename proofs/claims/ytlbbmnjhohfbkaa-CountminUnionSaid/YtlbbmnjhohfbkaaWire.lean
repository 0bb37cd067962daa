/- The contracts of package wire's numbers, words and strings. -/
import Derived.Test.YtlbbmnjhohfbkaaWireApp
namespace Go.Proofs.Ytlbbmnjhohfbkaa
open Go.RowKit
set_option linter.unusedVariables false
set_option linter.unusedSimpArgs false
def encE (n : Int) : Int := if 0 ≤ n ∧ n ≤ 4611686018427387904 then 0 else 5
def encB (n : Int) : List Int := if 0 ≤ n ∧ n ≤ 4611686018427387904 then uintB n.toNat else []
theorem encUint_any (n : Int) (w : World) (n0 : -9223372036854775808 ≤ n) (n1 : n ≤ 9223372036854775807) :
    Calls Try.prog 67 #[.int .i64 n] w fun e w' => ∃ v, e = .returned (.tuple #[v, .int .i64 (encE n)]) ∧ Own w.heap.size (encB n) v w' ∧ Below w.heap.size w w' := by
  by_cases hr : 0 ≤ n ∧ n ≤ 4611686018427387904
  · unfold encE encB
    rw [if_pos hr, if_pos hr]
    obtain ⟨m, rfl⟩ : ∃ m : Nat, n = (m : Int) := ⟨n.toNat, by omega⟩
    rw [Int.toNat_natCast]
    have hf := fun w : World => appendUint_any w.heap.size [] m (.slice none 0 0) w (by omega) (Nat.le_refl _) (by simp) (Own.empty _ _)
    rw [List.nil_append] at hf
    generalize uintB m = R at *
    go_enter Try.func67, Try.ntmps67
    go_wp2_with (go_at_call 76; refine (hf _).mono ?_; rintro e w2 ⟨v2, rfl, ho2, hb2⟩)
    go_ret2
    exact ⟨_, rfl, ho2, hb2⟩
  · unfold encE encB
    rw [if_neg hr, if_neg hr]
    by_cases h0 : n < 0
    all_goals
      have h1 : ¬ (0 ≤ n) ∨ 4611686018427387904 < n := by omega
      go_enter Try.func67, Try.ntmps67
      go_wp2
      go_ret2
      exact ⟨_, rfl, Own.empty _ _, Below.refl _ _⟩
theorem encWord_any (x : Nat) (w : World) (hx : x < 18446744073709551616) :
    Calls Try.prog 53 #[.int .u64 x] w fun e w' => ∃ v, e = .returned v ∧ Own w.heap.size (be x 8) v w' ∧ Below w.heap.size w w' := by
  have hf := fun w : World => appendBytes_any w.heap.size [] x 8 (.slice none 0 0) w hx (by decide) (Nat.le_refl _) (by simp) (Own.empty _ _)
  rw [List.nil_append] at hf
  generalize be x 8 = R at *
  go_enter Try.func53, Try.ntmps53
  go_wp2_with (go_at_call 68; refine (hf _).mono ?_; rintro e w2 ⟨v2, rfl, ho2, hb2⟩)
  go_ret
  exact ⟨_, rfl, ho2, hb2⟩
/-- A string's encoding. -/
def textB (L : List Int) : List Int := if L.length ≤ 65536 then uintB L.length ++ L else []
def textE (L : List Int) : Int := if L.length ≤ 65536 then 0 else 11
theorem uintB_len (x : Nat) (h : x < 18446744073709551616) : 1 ≤ (uintB x).length ∧ (uintB x).length ≤ 9 := by
  unfold uintB
  split
  · simp
  · have := nb_bd x (by omega) h
    simp [be_len]; omega
set_option maxRecDepth 100000 in
set_option maxHeartbeats 2000000 in
theorem decUint_any (L : List Int) (v : Value) (w : World) (h : Rd L v w) :
    Calls Try.prog 69 #[v] w fun e w' => e = .returned (.tuple #[.int .i64 (decU L).1, .int .i64 (decU L).2.1, .int .i64 (decU L).2.2]) ∧ w = w' := by
  have h0 := h
  obtain ⟨hy, a, cap, rfl, h1, h2, h3⟩ := h
  unfold maxLen at h2
  unfold decU
  by_cases hl : L.length = 0
  · rw [if_pos hl, hl]
    clear h3 h0
    go_enter Try.func69, Try.ntmps69
    go_wp2
    go_ret3
    exact ⟨rfl, rfl⟩
  · rw [if_neg hl]
    obtain ⟨b, off, rfl, hb, hcell⟩ := h3 (by omega)
    have c0 := hcell 0 (by omega)
    rw [Nat.add_zero] at c0
    have hcd := hy.at_ 0
    have HR := Lib.hid h0
    have HC := Lib.hid hcell
    clear h0 hcell h3
    by_cases hs : L.getD 0 0 < 248
    · rw [if_pos hs]
      generalize L.getD 0 0 = c at *
      go_enter Try.func69, Try.ntmps69
      go_wp2
      go_ret3
      exact ⟨rfl, rfl⟩
    · rw [if_neg hs]
      obtain ⟨k, hk⟩ : ∃ k : Nat, L.getD 0 0 = 246 + (k : Int) := ⟨(L.getD 0 0 - 246).toNat, by omega⟩
      have hk2 : L.getD 0 0 - 246 = (k : Int) := by omega
      rw [hk2, Int.toNat_natCast]
      have hu : 2 + (246 + (k : Int) - 248) = k := by omega
      rw [hk] at c0 hs hcd
      clear hk hk2
      by_cases hcut : (L.length : Int) < (k : Int)
      · rw [if_pos hcut]
        go_enter Try.func69, Try.ntmps69
        go_wp2
        go_ret3
        exact ⟨rfl, rfl⟩
      · rw [if_neg hcut]
        have c1 := HC.out 1 (by omega)
        have hw := wordOf_any _ _ w (HR.out.cut 1 k (by omega) (by omega) (some ⟨b, off + 1, none⟩) (fun _ => rfl) (m := k - 1) (c := cap - 1) rfl rfl) (by simp; omega)
        have hvb := val_bd ((L.take k).drop 1) ((hy.take k).drop 1)
        have hlen : ((L.take k).drop 1).length = k - 1 := by simp; omega
        rw [hlen] at hvb
        have hp : 256 ^ (k - 1) ≤ 256 ^ 8 := Nat.pow_le_pow_right (by decide) (by omega)
        have h8 : (256 : Nat) ^ 8 = 18446744073709551616 := by decide
        have hx0 : 0 ≤ val ((L.take k).drop 1) := hvb.1
        have hx1 : val ((L.take k).drop 1) < 18446744073709551616 := by omega
        have hcd1 := hy.at_ 1
        clear hvb hlen hp h8
        generalize val ((L.take k).drop 1) = x at *
        generalize L.getD 1 0 = t at *
        by_cases ht : t = 0
        · rw [if_pos (Or.inl ht)]
          subst ht
          go_enter Try.func69, Try.ntmps69
          go_wp2_with (go_at_call 77; refine hw.mono ?_; rintro e w' ⟨rfl, rfl⟩)
          go_ret3
          exact ⟨rfl, rfl⟩
        · have ht2 : (t == 0) = false := by simp [ht]
          by_cases hx2 : x < 248
          · rw [if_pos (Or.inr (Or.inl hx2))]
            go_enter Try.func69, Try.ntmps69
            go_wp2_with (go_at_call 77; refine hw.mono ?_; rintro e w' ⟨rfl, rfl⟩)
            go_ret3
            exact ⟨rfl, rfl⟩
          · by_cases hx3 : 4611686018427387904 < x
            · rw [if_pos (Or.inr (Or.inr hx3))]
              go_enter Try.func69, Try.ntmps69
              go_wp2_with (go_at_call 77; refine hw.mono ?_; rintro e w' ⟨rfl, rfl⟩)
              go_ret3
              exact ⟨rfl, rfl⟩
            · rw [if_neg (by omega)]
              go_enter Try.func69, Try.ntmps69
              go_wp2_with (go_at_call 77; refine hw.mono ?_; rintro e w' ⟨rfl, rfl⟩)
              go_ret3
              exact ⟨rfl, rfl⟩
/-- What is read as a word. -/
def decW (L : List Int) : Int × Int × Int := if L.length < 8 then (0, 0, 3) else (val (L.take 8), 8, 0)
theorem decWord_any (L : List Int) (v : Value) (w : World) (h : Rd L v w) :
    Calls Try.prog 71 #[v] w fun e w' => e = .returned (.tuple #[.int .u64 (decW L).1, .int .i64 (decW L).2.1, .int .i64 (decW L).2.2]) ∧ w = w' := by
  have h0 := h
  obtain ⟨hy, a, cap, rfl, h1, h2, h3⟩ := h
  unfold maxLen at h2
  unfold decW
  by_cases hl : L.length < 8
  · rw [if_pos hl]
    clear h0 h3
    go_enter Try.func71, Try.ntmps71
    go_wp2
    go_ret3
    exact ⟨rfl, rfl⟩
  · rw [if_neg hl]
    obtain ⟨b, off, rfl, hb, hcell⟩ := h3 (by omega)
    have hw := wordOf_any _ _ w (h0.cut 0 8 (by omega) (by omega) (some ⟨b, off, none⟩) (fun _ => rfl) (m := 8) (c := cap) rfl rfl) (by simp; omega)
    rw [List.drop_zero] at hw
    generalize val (L.take 8) = x at *
    clear h0 h3 hcell
    go_enter Try.func71, Try.ntmps71
    go_wp2_with (go_at_call 77; refine hw.mono ?_; rintro e w' ⟨rfl, rfl⟩)
    go_ret3
    exact ⟨rfl, rfl⟩
/-- What is read as a string: its bytes, the bytes that it takes, the error. -/
def decT (L : List Int) : List Int × Int × Int :=
  if (decU L).2.2 ≠ 0 then ([], 0, (decU L).2.2)
  else if 65536 < (decU L).1 then ([], 0, 2)
  else if (L.length : Int) - (decU L).2.1 < (decU L).1 then ([], 0, 3)
  else ((L.take ((decU L).2.1 + (decU L).1).toNat).drop (decU L).2.1.toNat, (decU L).2.1 + (decU L).1, 0)
/-- Bounds on what is read as a number. -/
theorem decU_bd {L : List Int} (hy : Byt L) : 0 ≤ (decU L).1 ∧ (decU L).1 ≤ 4611686018427387904 ∧ 0 ≤ (decU L).2.1 ∧ (decU L).2.1 ≤ L.length ∧ (decU L).2.1 ≤ 9 ∧ 0 ≤ (decU L).2.2 ∧ (decU L).2.2 ≤ 3 ∧ ((decU L).2.2 = 0 → 1 ≤ (decU L).2.1) := by
  have hc := hy.at_ 0
  unfold decU
  split
  · dsimp only; omega
  · split
    · dsimp only; omega
    · split
      · dsimp only; omega
      · split
        · dsimp only; omega
        · have := (val_bd ((L.take (L.getD 0 0 - 246).toNat).drop 1) ((hy.take _).drop 1)).1
          dsimp only
          omega
end Go.Proofs.Ytlbbmnjhohfbkaa
