/- The contract of sort.Search at a closure of two captured variables that answers whether p holds. -/
import Derived.Test.YtdifilhfmbpalaaDoorProg
import Derived.Test.YtdifilhfmbpalaaDoorWords
import Derived.Test.YtdifilhfmbpalaaDoorBel
import Derived.Test.YtdifilhfmbpalaaDoorIntRow
import Derived.Deep.RegionLaw
import Derived.BigQuiet
import Derived.Shelf.Abstract
namespace Go.Proofs.YtdifilhfmbpalaaDoor
open Go.RowKit
set_option linter.unusedVariables false
set_option linter.unusedSimpArgs false
/-- A closure that answers p below n, and only draws. -/
def TellsS (f : FuncId) (c1 c2 : Value) (p : Nat → Bool) (n : Nat) (w : World) : Prop :=
  (∀ args w, (callFunc f args).run Tryd.prog w = .ok (.enter f args) w) ∧ ∀ m i, i < n → Calls Tryd.prog f #[.int .i64 (i : Int), c1, c2] (w.drewN m) fun e w' => e = .returned (.bool (p i)) ∧ ∃ m', w' = w.drewN m'
set_option maxRecDepth 100000 in
set_option maxHeartbeats 2000000 in
theorem search_any (f : FuncId) (c1 c2 : Value) (p : Nat → Bool) (n : Nat) (w : World) (ht : TellsS f c1 c2 p n w) (hp : ∀ i j, i ≤ j → j < n → p i = true → p j = true) (hn : n ≤ 549755813888) :
    Calls Tryd.prog 54 #[.int .i64 (n : Int), .func (.func f) #[] #[c1, c2]] w fun e w' =>
      ∃ k m, k ≤ n ∧ (∀ i, i < k → p i = false) ∧ (k < n → p k = true) ∧ e = .returned (.int .i64 (k : Int)) ∧ w' = w.drewN m := by
  obtain ⟨he, hf⟩ := ht
  have HF := Lib.hid hf
  have HP := Lib.hid hp
  clear hf hp
  go_enter Tryd.func54, Tryd.ntmps54
  go_wp2
  go_loopw [5, 6] (fun vi vj wr => ∃ i j m : Nat, i ≤ j ∧ j ≤ n ∧ vi = .int .i64 (i : Int) ∧ vj = .int .i64 (j : Int) ∧ wr = w.drewN m ∧ Hid ((∀ x, x < i → p x = false) ∧ (j < n → p j = true))) (fun vi vj _ => (intOf vj).toNat - (intOf vi).toNat)
  case atStart => exact ⟨0, n, 0, Nat.zero_le _, Nat.le_refl _, rfl, rfl, rfl, Lib.hid ⟨fun x hx => absurd hx (Nat.not_lt_zero _), fun h => absurd h (Nat.lt_irrefl _)⟩⟩
  case round =>
    obtain ⟨i, j, m, hij, hjn, rfl, rfl, rfl, HI⟩ := hrel
    by_cases hlt : i < j
    · have hlt2 : (i : Int) < (j : Int) := by omega
      obtain ⟨h, hh⟩ : ∃ h, h = (i + j) / 2 := ⟨_, rfl⟩
      have hih : i ≤ h := by omega
      have hhj : h < j := by omega
      have hd : ((i : Int) + (j : Int)) / 2 = (h : Int) := by omega
      have hw1 : IntKind.u64.wrap ((i : Int) + (j : Int)) = (i : Int) + (j : Int) := by rw [IntKind.wrap_u64]; omega
      have hw2 : wrap64 ((i : Int) + (j : Int)) = (i : Int) + (j : Int) := by unfold wrap64; omega
      have hw4 : IntKind.i64.wrap (h : Int) = (h : Int) := by rw [IntKind.wrap_i64]; omega
      have hw5 : wrap64 (h : Int) = (h : Int) := by unfold wrap64; omega
      have hw6 : IntKind.u64.wrap (h : Int) = (h : Int) := by rw [IntKind.wrap_u64]; omega
      clear hh
      have HC := Lib.hid (HF.out m h (by omega))
      cases hph : p h
      · have hc := HC.out
        rw [hph] at hc
        have HC2 := Lib.hid hc
        have hnx : ∀ x, x < h + 1 → p x = false := fun x hx => by
          cases hx2 : p x with
          | false => rfl
          | true =>
            have h3 := HP.out x h (by omega) (by omega) hx2
            rw [hph] at h3
            cases h3
        have HNX : Hid ((∀ x, x < h + 1 → p x = false) ∧ (j < n → p j = true)) := Lib.hid ⟨hnx, HI.out.2⟩
        clear hnx
        clear hc HC hph
        go_wp2_with ((with_reducible refine HC2.out.mono ?_); rintro e w' ⟨rfl, m', rfl⟩)
        exact ⟨⟨h + 1, j, m', by omega, hjn, by go_num, rfl, rfl, HNX⟩, by simp [intOf]; omega⟩
      · have hc := HC.out
        rw [hph] at hc
        have HC2 := Lib.hid hc
        have HNX : Hid ((∀ x, x < i → p x = false) ∧ (h < n → p h = true)) := Lib.hid ⟨HI.out.1, fun _ => hph⟩
        clear hc HC hph
        go_wp2_with ((with_reducible refine HC2.out.mono ?_); rintro e w' ⟨rfl, m', rfl⟩)
        exact ⟨⟨i, h, m', hih, by omega, rfl, by go_num, rfl, HNX⟩, by simp [intOf]; omega⟩
    · obtain rfl : i = j := by omega
      go_wp2
      go_ret
      exact ⟨_, m, hjn, HI.out.1, HI.out.2, rfl, rfl⟩
end Go.Proofs.YtdifilhfmbpalaaDoor
