/- The contracts of pages.Count, address, page and of the reference's Count. -/
import Derived.Test.YtbppdbfjhdhehaaPgN
import Derived.Test.YtbppdbfjhdhehaaPgR
import Derived.Test.YtbppdbfjhdhehaaFl
import Derived.Test.YtbppdbfjhdhehaaDivs
import Derived.Test.YtbppdbfjhdhehaaShelf
import Derived.Laws.Cover3
namespace Go.Proofs.Ytbppdbfjhdhehaa
open Go.RowKit
set_option linter.unusedVariables false
set_option linter.unusedSimpArgs false
theorem fl_int53 (n : Nat) (h : n < 9007199254740992) (w : World) : (convert 46 3 (.float .f64 (flN n))).run Try.prog w = .ok (.int .i64 n) w :=
  run_convert_float_int w 46 3 .f64 .i64 _ _ (by rw [Try.underlying46]; rfl) Try.underlying3 (fl_back53 n h)
theorem int_fl (n : Nat) (w : World) : (convert 3 46 (.int .i64 n)).run Try.prog w = .ok (.float .f64 (flN n)) w :=
  run_convert_int_float w 3 46 .i64 .f64 n (by rw [Try.underlying3]; rfl) Try.underlying46
/-- The error and the value of Count. -/
def cntE (n s : Int) : Int := if n < 0 ∨ s < 1 ∨ 1024 < s then 5 else 0
def cntV (n s : Int) : Int := if n < 0 ∨ s < 1 ∨ 1024 < s then 0 else cdivN n s
theorem cnt_eq (n s : Nat) (hs : 1 ≤ s) (hs2 : s ≤ 1024) : cntE n s = 0 ∧ cntV n s = (cntN n s : Int) := by
  unfold cntE cntV
  rw [if_neg (by omega), if_neg (by omega)]
  refine ⟨rfl, ?_⟩
  unfold cdivN cntN
  have h0 := Nat.div_add_mod n s
  have hm := Nat.mod_lt n (show s > 0 by omega)
  by_cases h : 0 < n % s
  · rw [if_pos (by omega)]
    have : (n + s - 1) / s = n / s + 1 := by
      rw [Nat.div_eq_iff (by omega)]
      rw [Nat.add_mul, Nat.one_mul, Nat.mul_comm]
      omega
    rw [this]
    omega
  · rw [if_neg (by omega)]
    have : (n + s - 1) / s = n / s := by
      rw [Nat.div_eq_iff (by omega), Nat.mul_comm]
      omega
    rw [this]
    omega
theorem cnt_bad {n : Nat} {s : Int} (h : s < 1 ∨ 1024 < s) : cntE n s = 5 ∧ cntV n s = 0 := by
  unfold cntE cntV
  rw [if_pos (by omega), if_pos (by omega)]
  exact ⟨rfl, rfl⟩
theorem pcount_any (n s : Int) (w : World) (n0 : -9223372036854775808 ≤ n) (n1 : n ≤ 9223372036854775807) (s0 : -9223372036854775808 ≤ s) (s1 : s ≤ 9223372036854775807) :
    Calls Try.prog 10 #[.int .i64 n, .int .i64 s] w fun e w' => e = .returned (.tuple #[.int .i64 (cntV n s), .int .i64 (cntE n s)]) ∧ w = w' := by
  by_cases h : 1024 < s
  · have e1 : cntE n s = 5 := by unfold cntE; rw [if_pos (by omega)]
    have e2 : cntV n s = 0 := by unfold cntV; rw [if_pos (by omega)]
    rw [e1, e2]
    clear e1 e2
    go_enter Try.func10, Try.ntmps10
    go_wp2
    go_ret2
    exact ⟨rfl, rfl⟩
  · by_cases h2 : n < 0 ∨ s < 1
    · have e1 : cntE n s = 5 := by unfold cntE; rw [if_pos (by omega)]
      have e2 : cntV n s = 0 := by unfold cntV; rw [if_pos (by omega)]
      rw [e1, e2]
      clear e1 e2
      have hc := fun w => ceil_err n s w h2
      clear h2
      go_enter Try.func10, Try.ntmps10
      go_wp2_with (go_at_call 20; refine (hc _).mono ?_; rintro e w' ⟨rfl, rfl⟩)
      go_ret2
      exact ⟨rfl, rfl⟩
    · have e1 : cntE n s = 0 := by unfold cntE; rw [if_neg (by omega)]
      have e2 : cntV n s = cdivN n s := by unfold cntV; rw [if_neg (by omega)]
      rw [e1, e2]
      clear e1 e2
      have hc := fun w => ceil_ok n s w (by omega) n1 (by omega) s1
      clear h2
      generalize cdivN n s = q at *
      go_enter Try.func10, Try.ntmps10
      go_wp2_with (go_at_call 20; refine (hc _).mono ?_; rintro e w' ⟨rfl, rfl⟩)
      go_ret2
      exact ⟨rfl, rfl⟩
theorem rcount_any (n s : Int) (w : World) (n0 : -9223372036854775808 ≤ n) (n1 : n ≤ 9223372036854775807) (s0 : -9223372036854775808 ≤ s) (s1 : s ≤ 9223372036854775807) :
    Calls Try.prog 11 #[.int .i64 n, .int .i64 s] w fun e w' => e = .returned (.tuple #[.int .i64 (cntV n s), .int .i64 (cntE n s)]) ∧ w = w' := by
  by_cases h : n < 0 ∨ s < 1 ∨ 1024 < s
  · have e1 : cntE n s = 5 := by unfold cntE; rw [if_pos h]
    have e2 : cntV n s = 0 := by unfold cntV; rw [if_pos h]
    rw [e1, e2]
    clear e1 e2
    by_cases h1 : n < 0
    · clear h
      go_enter Try.func11, Try.ntmps11
      go_wp2
      go_ret2
      exact ⟨rfl, rfl⟩
    · by_cases h2 : s < 1
      · clear h
        go_enter Try.func11, Try.ntmps11
        go_wp2
        go_ret2
        exact ⟨rfl, rfl⟩
      · have h3 : 1024 < s := by omega
        clear h
        go_enter Try.func11, Try.ntmps11
        go_wp2
        go_ret2
        exact ⟨rfl, rfl⟩
  · have e1 : cntE n s = 0 := by unfold cntE; rw [if_neg h]
    have e2 : cntV n s = cdivN n s := by unfold cntV; rw [if_neg h]
    rw [e1, e2]
    clear e1 e2
    have h1 : 0 ≤ n := by omega
    have h2 : 1 ≤ s := by omega
    have h3 : s ≤ 1024 := by omega
    clear h
    have hc := fun w => ref_ceil_ok n s w h1 n1 h2 s1
    generalize cdivN n s = q at *
    go_enter Try.func11, Try.ntmps11
    go_wp2_with (go_at_call 21; refine (hc _).mono ?_; rintro e w' ⟨rfl, rfl⟩)
    go_ret2
    exact ⟨rfl, rfl⟩
theorem addr_any (i s n F T : Nat) (w : World) (hF : i * s = F) (hT : min (F + s) n = T) (hi : i ≤ 1000000000000) (hs : s ≤ 1024) (hn : n ≤ 1000000000000) :
    Calls Try.prog 19 #[.int .i64 i, .int .i64 s, .int .i64 n] w fun e w' => e = .returned (.complex .f64 (flN F) (flN T)) ∧ w = w' := by
  have hFb : F ≤ 1024000000000000 := by
    rw [← hF]
    exact Nat.le_trans (Nat.mul_le_mul hi hs) (by decide)
  have e1 : (i : Int) * (s : Int) = (F : Int) := by rw [← hF]; push_cast; rfl
  have e2 : min ((F : Int) + (s : Int)) (n : Int) = (T : Int) := by omega
  have c1 := fun w => int_fl F w
  have c2 := fun w => int_fl T w
  generalize flN F = p at *
  generalize flN T = q at *
  clear hF hT
  go_enter Try.func19, Try.ntmps19
  go_wp2
  go_ret
  exact ⟨rfl, rfl⟩
/-- A copy of bytes, at least one. -/
theorem clone_any (L : List Int) (v : Value) (w : World) (h : Rd L v w) (h0 : 0 < L.length) (h1 : L.length ≤ 140737488355328) :
    Calls Try.prog 24 #[v] w fun e w' => ∃ v', e = .returned v' ∧ Own w.heap.size L v' w' ∧ Below w.heap.size w w' := by
  obtain ⟨hy, a, cap, rfl, h2, h3, h4⟩ := h
  obtain ⟨b, off, rfl, hb, hc⟩ := h4 h0
  refine (Try.bytes_Clone_at ⟨b, off, none⟩ L.length cap L w rfl h1 (fun i hi => by rw [Addr.add_lit]; exact hc i hi)).mono ?_
  rintro e w' ⟨v', rfl, ho, -, hbel⟩
  exact ⟨v', rfl, ⟨hy, ho⟩, hbel⟩
theorem page_any (L : List Int) (F T : Nat) (v : Value) (w : World) (h : Rd L v w) (h1 : F < T) (h2 : T ≤ L.length) (h3 : L.length ≤ 1000000000000) :
    Calls Try.prog 18 #[v, .complex .f64 (flN F) (flN T)] w fun e w' => ∃ v', e = .returned v' ∧ Own w.heap.size ((L.take T).drop F) v' w' ∧ Below w.heap.size w w' := by
  have c1 := fun w => fl_int53 F (by omega) w
  have c2 := fun w => fl_int53 T (by omega) w
  have H := Lib.hid h
  obtain ⟨hy, a, cap, rfl, h4, h5, h6⟩ := h
  obtain ⟨b, off, rfl, hb, hc⟩ := h6 (by omega)
  have HC := Lib.hid (H.out.cut F T (by omega) h2 (some ⟨b, off + F, none⟩) (fun _ => rfl) (m := T - F) (c := cap - F) rfl rfl)
  have HK := Lib.hid (clone_any _ _ _ HC.out (by simp; omega) (by simp; omega))
  clear hc h6 HC H hy
  have h7 : (F : Int) < (cap : Int) := by omega
  unfold maxLen at h5
  generalize flN F = p at *
  generalize flN T = q at *
  go_enter Try.func18, Try.ntmps18
  go_wp2_with fail
  go_at_call 24
  refine (HK.out).mono ?_
  rintro e w' ⟨v', rfl, ho, hb'⟩
  have HO := Lib.hid ho
  have HB := Lib.hid hb'
  clear ho hb'
  go_wp2
  go_ret
  exact ⟨_, rfl, HO.out, HB.out⟩
end Go.Proofs.Ytbppdbfjhdhehaa
