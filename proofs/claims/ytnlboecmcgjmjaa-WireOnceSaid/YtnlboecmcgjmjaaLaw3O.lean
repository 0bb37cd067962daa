/- The walk of the law WireOnce. -/
import Derived.Test.YtnlboecmcgjmjaaLaw3
import Derived.Deep.RegionHeld3
namespace Go.Proofs.Ytnlboecmcgjmjaa
open Go.RowKit
set_option linter.unusedVariables false
set_option linter.unusedSimpArgs false
theorem decU_err {L : List Int} (h : (decU L).2.2 ≠ 0) : (decU L).1 = 0 ∧ (decU L).2.1 = 0 := by
  unfold decU at h ⊢
  split
  · exact ⟨rfl, rfl⟩
  · rename_i h0
    rw [if_neg h0] at h
    split
    · rename_i h1
      rw [if_pos h1] at h
      exact absurd rfl h
    · rename_i h1
      rw [if_neg h1] at h
      split
      · exact ⟨rfl, rfl⟩
      · rename_i h2
        rw [if_neg h2] at h
        split
        · exact ⟨rfl, rfl⟩
        · rename_i h3
          rw [if_neg h3] at h
          exact absurd rfl h
set_option maxRecDepth 100000 in
set_option maxHeartbeats 800000 in
theorem wireOnce_walk (a : Option Addr) (n cap : Nat) (z : List Int) (W : World) (w0 : InRow .u8 W a n cap z) :
    Calls Try.prog 6 #[.slice a n cap] W fun e w' => e = .returned (.bool true) ∧ Below W.heap.size W w' := by
  have hr := inRow_rd w0
  have hn : n ≤ 9223372036854775807 := by have := w0.1; have := w0.2.1; unfold maxLen at this; omega
  have hnc := w0.1
  have h1 := decUint_any _ _ W hr
  have hln : (z.take n).length = n := by have := w0.2.2.1; simp; omega
  obtain ⟨b0, b1, b2, b3, b4, b5, b6, b7⟩ := decU_bd hr.1
  have hon := decU_once hr.1
  have her := @decU_err (z.take n)
  rw [hln] at b3
  generalize (decU (z.take n)).1 = u1 at *
  generalize (decU (z.take n)).2.1 = u2 at *
  generalize (decU (z.take n)).2.2 = u3 at *
  by_cases he : u3 = 0
  · have e0 : (u3 != 0) = false := by simp [he]
    subst he
    obtain ⟨N, rfl⟩ : ∃ N : Nat, u1 = (N : Int) := ⟨u1.toNat, by omega⟩
    obtain ⟨K, rfl⟩ : ∃ K : Nat, u2 = (K : Int) := ⟨u2.toNat, by omega⟩
    have hon := hon rfl
    have hb7 := b7 rfl
    rw [Int.toNat_natCast, Int.toNat_natCast] at hon
    have hE : encE (N : Int) = 0 := by unfold encE; rw [if_pos (by omega)]
    have hB : encB (N : Int) = z.take K := by
      unfold encB; rw [if_pos (by omega), Int.toNat_natCast, hon, List.take_take, Nat.min_eq_left (by omega)]
    have h2 := fun ww => k_enc (N : Int) (z.take K) ww (by omega) (by omega) hE hB
    have hr0 := hr
    obtain ⟨hy, a', cap', hv, _, _, h3⟩ := hr
    simp only [Value.slice.injEq] at hv
    obtain ⟨rfl, hnl, rfl⟩ := hv
    clear hnl
    rw [hln] at h3
    obtain ⟨b, off, rfl, hb, hc⟩ := h3 (by omega)
    have hc2 := hr0.cut 0 K (by omega) (by omega) (some ⟨b, off, none⟩) (fun _ => rfl) (m := K) (c := cap) rfl rfl
    rw [List.drop_zero, List.take_take, Nat.min_eq_left (by omega)] at hc2
    have HC2 := Lib.hid hc2
    clear hr0 hc hc2 h3 hy hon her b7 hB hE w0 hln
    generalize z.take K = M at *
    have hi2 : (K : Int) ≤ (cap : Int) := by omega
    go_enter Try.func6, Try.ntmps6
    go_wp2_with (first
      | (go_at_call 17; refine h1.mono ?_; rintro e w' ⟨rfl, rfl⟩)
      | (go_at_call 11; refine (h2 _).mono ?_; rintro e x1 ⟨v1, rfl, o1, b1⟩; have c1 : ∀ w', Below x1.heap.size x1 w' → (convert 24 9 v1).run Try.prog w' = .ok (.string (strOfNums M)) w' := fun w' h => (o1.below h).rd.conv; have c2 : ∀ w', Below x1.heap.size x1 w' → (convert 24 9 (.slice (some ⟨b, off, none⟩) K cap)).run Try.prog w' = .ok (.string (strOfNums M)) w' := fun w' h => (HC2.out.below (b1.trans (h.mono b1.size))).conv; have HB1 := Lib.hid b1; clear h2 o1 b1))
    go_region_held3 (fun w' => Below x1.heap.size x1 w') (first | assumption | exact (Below.refl _ _).drew) (first
      | (go_at_call 10; refine (known_any _).mono ?_; rintro e w' ⟨rfl, hbl⟩; have S1 : Below x1.heap.size x1 w' := (Below.refl _ x1).drew.trans hbl))
    all_goals go_wp2
    all_goals go_ret
    all_goals exact ⟨rfl, HB1.out.trans (S1.mono HB1.out.size)⟩
  · have e0 : (u3 != 0) = true := by simp [he]
    obtain ⟨rfl, rfl⟩ := her he
    clear hon her b7 hr w0 hln
    go_enter Try.func6, Try.ntmps6
    go_wp2_with (first
      | (go_at_call 17; refine h1.mono ?_; rintro e w' ⟨rfl, rfl⟩)
      | (go_at_call 10; refine (known_any _).mono ?_; rintro e w' ⟨rfl, hbl⟩))
    go_ret
    exact ⟨rfl, hbl⟩
end Go.Proofs.Ytnlboecmcgjmjaa
