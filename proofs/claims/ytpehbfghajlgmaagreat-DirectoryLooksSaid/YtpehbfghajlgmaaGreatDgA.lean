/- The program's isOpen, holds, follows. -/
import Derived.Test.YtpehbfghajlgmaaGreatDgC
namespace Go.Proofs.YtpehbfghajlgmaaGreat
open Go.RowKit
set_option linter.unusedVariables false
set_option linter.unusedSimpArgs false
theorem isopen_any (n : ByteArray) (r k s : Int) (w : World) : Calls Tryz.prog 37 #[.agg #[.string n, .int .i64 r, .int .i64 k, .int .i64 s]] w fun e w' => e = .returned (.bool (s == 0)) ∧ Below w.heap.size w w' := by
  go_enter Tryz.func37, Tryz.ntmps37
  go_wp2
  go_ret
  exact ⟨rfl, b1 _⟩
theorem holds18_any (n : ByteArray) (r k s c : Int) (w : World) : Calls Tryz.prog 29 #[.agg #[.string n, .int .i64 r, .int .i64 k, .int .i64 s], .int .i64 c] w fun e w' => e = .returned (.bool (hldB k s c)) ∧ Below w.heap.size w w' := by
  have HO := Lib.hid (fun w => isopen_any n r k s w)
  have HB0 := Lib.hid (b1 (a := w) (.cells #[.string n, .int .i64 r, .int .i64 k, .int .i64 s] 27))
  unfold hldB
  by_cases h1 : k ≤ c
  · by_cases h2 : c < s
    · have e : (decide (k ≤ c) && (decide (c < s) || decide (s = 0))) = true := by simp [h1, h2]
      rw [e]
      clear e
      go_enter Tryz.func29, Tryz.ntmps29
      go_wp2_with (go_at_call 37; refine (HO.out _).mono ?_; rintro e w1 ⟨rfl, hb⟩; have HB := Lib.hid (bgo HB0.out hb); clear hb)
      go_ret
      exact ⟨rfl, HB0.out⟩
    · have e : (decide (k ≤ c) && (decide (c < s) || decide (s = 0))) = (s == 0) := by rw [Bool.eq_iff_iff]; simp [h1, h2]
      rw [e]
      clear e
      go_enter Tryz.func29, Tryz.ntmps29
      go_wp2_with (go_at_call 37; refine (HO.out _).mono ?_; rintro e w1 ⟨rfl, hb⟩; have HB := Lib.hid (bgo HB0.out hb); clear hb)
      go_ret
      exact ⟨rfl, HB.out⟩
  · have e : (decide (k ≤ c) && (decide (c < s) || decide (s = 0))) = false := by simp [h1]
    rw [e]
    clear e
    go_enter Tryz.func29, Tryz.ntmps29
    go_wp2_with (go_at_call 37; refine (HO.out _).mono ?_; rintro e w1 ⟨rfl, hb⟩; have HB := Lib.hid (bgo HB0.out hb); clear hb)
    go_ret
    exact ⟨rfl, HB0.out⟩
/-- Whether x may stand directly behind y. -/
def folB (x y : Bg) : Bool := if y.n = x.n then !(y.s == 0) && decide (y.s ≤ x.k) else lessK y.n x.n
theorem follows_any (x y : Bg) (w : World) : Calls Tryz.prog 38 #[.agg #[.string x.n, .int .i64 x.r, .int .i64 x.k, .int .i64 x.s], .agg #[.string y.n, .int .i64 y.r, .int .i64 y.k, .int .i64 y.s]] w fun e w' => e = .returned (.bool (folB x y)) ∧ Below w.heap.size w w' := by
  obtain ⟨n, r, k, s⟩ := x
  obtain ⟨m, r', k', s'⟩ := y
  have HO := Lib.hid (fun w => isopen_any m r' k' s' w)
  have HB0 := Lib.hid (b2 (a := w) (.cells #[.string n, .int .i64 r, .int .i64 k, .int .i64 s] 27) (.cells #[.string m, .int .i64 r', .int .i64 k', .int .i64 s'] 27))
  unfold folB
  dsimp only
  by_cases h1 : m = n
  · subst h1
    rw [if_pos rfl]
    by_cases h2 : s' = 0
    · subst h2
      have e : (!((0 : Int) == 0) && decide ((0 : Int) ≤ k)) = false := by simp
      rw [e]
      clear e
      go_enter Tryz.func38, Tryz.ntmps38
      go_wp2_with (go_at_call 37; refine (HO.out _).mono ?_; rintro e w1 ⟨rfl, hb⟩; have HB := Lib.hid (bgo HB0.out hb); clear hb)
      go_ret
      exact ⟨rfl, HB.out⟩
    · have h3 : (s' == 0) = false := beq_eq_false_iff_ne.2 h2
      have e : (!(s' == 0) && decide (s' ≤ k)) = decide (s' ≤ k) := by rw [h3]; rfl
      rw [e]
      have HO2 : Hid (∀ w, Calls Tryz.prog 37 #[.agg #[.string m, .int .i64 r', .int .i64 k', .int .i64 s']] w fun e w' => e = .returned (.bool false) ∧ Below w.heap.size w w') := Lib.hid (fun w => by have := HO.out w; rw [h3] at this; exact this)
      have HCL := Lib.hid (fun (w1 : World) (hb : Below (w.heap.size + 2) ((w.alloc (.cells #[.string m, .int .i64 r, .int .i64 k, .int .i64 s] 27)).alloc (.cells #[.string m, .int .i64 r', .int .i64 k', .int .i64 s'] 27)) w1) =>
        And.intro ((hb.cell (p := ⟨w.heap.size + 1, 3, none⟩) (by simp)).trans (show ((w.alloc (.cells #[.string m, .int .i64 r, .int .i64 k, .int .i64 s] 27)).alloc (.cells #[.string m, .int .i64 r', .int .i64 k', .int .i64 s'] 27)).cell? ⟨w.heap.size + 1, 3, none⟩ = some (.int .i64 s') by go_simp)) ((hb.cell (p := ⟨w.heap.size, 2, none⟩) (by simp)).trans (show ((w.alloc (.cells #[.string m, .int .i64 r, .int .i64 k, .int .i64 s] 27)).alloc (.cells #[.string m, .int .i64 r', .int .i64 k', .int .i64 s'] 27)).cell? ⟨w.heap.size, 2, none⟩ = some (.int .i64 k) by go_simp)))
      clear e h2 HO h3
      go_enter Tryz.func38, Tryz.ntmps38
      go_wp2_with (go_at_call 37; refine (HO2.out _).mono ?_; rintro e w1 ⟨rfl, hb⟩; have HB := Lib.hid (bgo HB0.out hb); obtain ⟨d0, d1⟩ := HCL.out w1 (hb.mono (by simp)); clear hb)
      go_ret
      exact ⟨rfl, HB.out⟩
  · rw [if_neg h1]
    have h2 : (m.toList == n.toList) = false := beq_eq_false_iff_ne.2 (fun h => h1 (toL_inj h))
    unfold lessK
    go_enter Tryz.func38, Tryz.ntmps38
    go_wp2_with (fail)
    go_ret
    exact ⟨rfl, HB0.out⟩
end Go.Proofs.YtpehbfghajlgmaaGreat
