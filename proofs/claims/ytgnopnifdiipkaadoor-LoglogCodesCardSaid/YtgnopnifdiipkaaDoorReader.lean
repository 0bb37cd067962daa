/- The contracts of the reference's reader of encodings: numbers, and its end. -/
import Derived.Test.YtgnopnifdiipkaaDoorTail
import Derived.Test.YtgnopnifdiipkaaDoorWires
import Derived.Test.YtgnopnifdiipkaaDoorBel
import Derived.Test.YtgnopnifdiipkaaDoorWords
namespace Go.Proofs.YtgnopnifdiipkaaDoor
open Go.RowKit
set_option linter.unusedVariables false
set_option linter.unusedSimpArgs false
/-- A number of at most M stands at the head. -/
def numG (L : List Int) (M : Int) : Bool := (decU L).2.2 == 0 && decide ((decU L).1 ≤ M)
set_option maxRecDepth 100000 in
set_option maxHeartbeats 2000000 in
theorem number_good (g : Nat) (L : List Int) (v : Value) (k : Nat) (M : Int) (w : World) (h : Rd L v w) (hk : k ≤ L.length) (M0 : -9223372036854775808 ≤ M) (M1 : M ≤ 9223372036854775807)
    (c0 : w.cell? ⟨g, 0, none⟩ = some v) (c1 : w.cell? ⟨g, 1, none⟩ = some (.int .i64 (k : Int))) (c2 : w.cell? ⟨g, 2, none⟩ = some (.bool false)) (f1 : w.frozen? ⟨g, 1, none⟩ = false) (hg : numG (L.drop k) M = true) :
    Calls Tryd.prog 56 #[.pointer (some ⟨g, 0, none⟩), .int .i64 M] w fun e w' =>
      e = .returned (.int .i64 (decU (L.drop k)).1) ∧ ∃ m, w' = (w.setCell ⟨g, 1, none⟩ (.int .i64 ((k : Int) + (decU (L.drop k)).2.1))).drewN m := by
  have hr := fun w => tlV_run h k hk w
  have ht := h.tl k hk
  have hd := fun n => rdecUint_any (L.drop k) (tlV v k) (w.drewN n) ht
  obtain ⟨b0, b1, b2, b3, b4, b5, b6, b7⟩ := decU_bd ht.1
  have hl : (k : Int) + (decU (L.drop k)).2.1 ≤ 9223372036854775807 := by
    obtain ⟨_, _, _, _, h1, h2, _⟩ := h
    unfold maxLen at h2
    rw [List.length_drop] at b3
    omega
  unfold numG at hg
  rw [Bool.and_eq_true, beq_iff_eq, decide_eq_true_eq] at hg
  generalize tlV v k = u at *
  generalize (decU (L.drop k)).1 = n at *
  generalize (decU (L.drop k)).2.1 = j at *
  generalize (decU (L.drop k)).2.2 = e at *
  obtain ⟨rfl, hM⟩ := hg
  clear h ht b7 b3
  go_enter Tryd.func56, Tryd.ntmps56
  go_wp2
  go_quiet ((go_at_call 69; exact quiet_left (hd _)))
  go_wp2
  go_ret
  exact ⟨rfl, _, rfl⟩
set_option maxRecDepth 100000 in
set_option maxHeartbeats 2000000 in
theorem number_bad (g : Nat) (L : List Int) (v : Value) (k : Nat) (b : Bool) (M : Int) (w : World) (h : Rd L v w) (hk : k ≤ L.length) (M0 : -9223372036854775808 ≤ M) (M1 : M ≤ 9223372036854775807)
    (c0 : w.cell? ⟨g, 0, none⟩ = some v) (c1 : w.cell? ⟨g, 1, none⟩ = some (.int .i64 (k : Int))) (c2 : w.cell? ⟨g, 2, none⟩ = some (.bool b)) (f2 : w.frozen? ⟨g, 2, none⟩ = false) (hg : b = true ∨ numG (L.drop k) M = false) :
    Calls Tryd.prog 56 #[.pointer (some ⟨g, 0, none⟩), .int .i64 M] w fun e w' =>
      e = .returned (.int .i64 0) ∧ ∃ m, w' = (w.setCell ⟨g, 2, none⟩ (.bool true)).drewN m := by
  have hr := fun w => tlV_run h k hk w
  have ht := h.tl k hk
  have hd := fun n => rdecUint_any (L.drop k) (tlV v k) (w.drewN n) ht
  obtain ⟨b0, b1, b2, b3, b4, b5, b6, b7⟩ := decU_bd ht.1
  have hl : (k : Int) + (decU (L.drop k)).2.1 ≤ 9223372036854775807 := by
    obtain ⟨_, _, _, _, h1, h2, _⟩ := h
    unfold maxLen at h2
    rw [List.length_drop] at b3
    omega
  unfold numG at hg
  generalize tlV v k = u at *
  generalize (decU (L.drop k)).1 = n at *
  generalize (decU (L.drop k)).2.1 = j at *
  generalize (decU (L.drop k)).2.2 = e at *
  clear h ht b7 b3
  by_cases hb : b = true
  · subst hb
    clear hg
    go_enter Tryd.func56, Tryd.ntmps56
    go_wp2
    go_quiet ((go_at_call 69; exact quiet_left (hd _)))
    go_wp2
    go_ret
    exact ⟨rfl, _, rfl⟩
  · have hb' : b = false := by simpa using hb
    subst hb'
    clear hb
    by_cases he : e = 0
    · subst he
      have hM : M < n := by simpa using hg
      clear hg
      go_enter Tryd.func56, Tryd.ntmps56
      go_wp2
      go_quiet ((go_at_call 69; exact quiet_left (hd _)))
      go_wp2
      go_ret
      exact ⟨rfl, _, rfl⟩
    · have he' : (e != 0) = true := by simp [he]
      clear hg he
      go_enter Tryd.func56, Tryd.ntmps56
      go_wp2
      go_quiet ((go_at_call 69; exact quiet_left (hd _)))
      go_wp2
      go_ret
      exact ⟨rfl, _, rfl⟩
/-- Everything was read, without an error. -/
theorem done_any (g : Nat) (L : List Int) (v : Value) (k : Int) (b : Bool) (w : World) (h : Rd L v w)
    (c0 : w.cell? ⟨g, 0, none⟩ = some v) (c1 : w.cell? ⟨g, 1, none⟩ = some (.int .i64 k)) (c2 : w.cell? ⟨g, 2, none⟩ = some (.bool b)) :
    Calls Tryd.prog 58 #[.pointer (some ⟨g, 0, none⟩)] w fun e w' => e = .returned (.bool (!b && decide (k = L.length))) ∧ ∃ m, w' = w.drewN m := by
  obtain ⟨hy, a, cap, rfl, h1, h2, h3⟩ := h
  unfold maxLen at h2
  cases b
  all_goals
    go_enter Tryd.func58, Tryd.ntmps58
    go_wp2
    go_quiet (fail)
    go_wp2
    go_ret
    exact ⟨ret_bool (by simp [BEq.beq]), _, rfl⟩
end Go.Proofs.YtgnopnifdiipkaaDoor
