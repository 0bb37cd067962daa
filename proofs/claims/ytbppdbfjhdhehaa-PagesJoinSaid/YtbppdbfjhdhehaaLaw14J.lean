/- The walk of the law PagesJoin. -/
import Derived.Test.YtbppdbfjhdhehaaKn14
import Derived.Deep.RegionHeld
namespace Go.Proofs.Ytbppdbfjhdhehaa
open Go.RowKit
set_option linter.unusedVariables false
set_option linter.unusedSimpArgs false
theorem mask6j (n : Int) : bits .and .i64 n 63 = n % 64 := i64_mask 6 (by decide) n
set_option maxRecDepth 100000 in
set_option maxHeartbeats 1000000 in
theorem pagesJoin_walk (a : Option Addr) (n cap : Nat) (z : List Int) (m : Int) (W : World) (w0 : InRow .u8 W a n cap z) (w1 : (Lit.int .i64 m).wf = true) :
    Calls Try.prog 4 #[.slice a n cap, .int .i64 m] W fun e w' => e = .returned (.bool true) ∧ Below W.heap.size W w' := by
  have hr := inRow_rd w0
  have hlz : (z.take n).length = n := by have := w0.1; have := w0.2.2.1; simp; omega
  have gn : n ≤ 9223372036854775807 := by have := w0.1; have := w0.2.1; unfold maxLen at this; omega
  obtain ⟨m0, m1⟩ := wf_bd w1
  clear w0 w1
  by_cases hn : 1000 < n
  · have hn2 : (1000 : Int) < (n : Int) := by omega
    clear hr hlz
    go_enter Try.func4, Try.ntmps4
    go_wp2_with (go_at_call 7; refine (known14_any _).mono ?_; rintro e w' ⟨rfl, hb⟩)
    go_ret
    exact ⟨rfl, hb⟩
  · have hn2 : (n : Int) ≤ 1000 := by omega
    have hL : (z.take n).length ≤ 1000 := by omega
    generalize z.take n = L at *
    subst hlz
    have hk := mask6j m
    obtain ⟨T, hT⟩ : ∃ T : Nat, 1 + m % 64 = (T : Int) := ⟨(1 + m % 64).toNat, by omega⟩
    have hT1 : 1 ≤ T := by omega
    have hT2 : T ≤ 64 := by omega
    have HR := Lib.hid hr
    have hp := psplit_any L T _ W hr (by omega) (by omega) (by omega)
    rw [(spl_ok (L := L) hT1 (by omega)).1, (spl_ok (L := L) hT1 (by omega)).2] at hp
    have HN2 : cntN L.length T ≤ 1000 := Nat.le_trans (cnt_le hT1) hL
    have HJ := Lib.hid (fun v w (h : RdPs (pgs L T) v w) => pjoin_any (pgs L T) v w h (by rw [pgs_len]; omega) (by rw [pgs_join hT1]; omega))
    rw [pgs_join hT1] at HJ
    have hat := fun j (h : j < cntN L.length T) => pgs_at (L := L) (s := T) h
    have hln := fun j (h : j < cntN L.length T) => (pg_len (L := L) hT1 h).2
    have hfu := fun j (h : j + 1 < cntN L.length T) => pg_full (L := L) hT1 h
    rw [← pgs_len] at hat hln hfu HN2
    have HAT := Lib.hid hat
    have HLN := Lib.hid hln
    have HFU := Lib.hid hfu
    clear hr hat hln hfu
    generalize pgs L T = Z at *
    go_enter Try.func4, Try.ntmps4
    go_wp2_with (go_at_call 8; refine hp.mono ?_; rintro e w1 ⟨v1, rfl, o1, b1⟩; have O1 := Lib.hid o1; have B1 := Lib.hid b1; obtain ⟨a1, c1, rfl⟩ := o1.shape; clear o1 b1 hp)
    have cb : ∀ ww, Below w1.heap.size w1 ww → (convert 22 9 (.slice a L.length cap)).run Try.prog ww = .ok (.string (strOfNums L)) ww := fun ww h => (HR.out.below (bgo B1.out h)).conv
    go_region_held (fun w' => Below w1.heap.size w1 w') (first | assumption | exact (Below.refl _ _).drew) (first
      | (go_at_call 13; refine (HJ.out _ _ (O1.out.below (Below.refl _ w1).drew)).mono ?_; rintro e w2 ⟨v2, rfl, o2, b2⟩; have S2 : Below w1.heap.size w1 w2 := (Below.refl _ w1).drew.trans b2; have d2 := o2.conv))
    go_wp2
    have B2 := Lib.hid (bgo B1.out S2)
    have O2 := Lib.hid (O1.out.below S2)
    clear S2 d2 o2 b2 cb
    go_loop [8] (fun i => ∃ k : Nat, k ≤ Z.length ∧ i = .int .i64 (k : Int)) (fun i => Z.length - (intOf i).toNat)
    case atStart => exact ⟨0, by omega, rfl⟩
    case round =>
      obtain ⟨k, hk, rfl⟩ := hrel
      by_cases hlt : k < Z.length
      · obtain ⟨b, off, u, q, c, rfl, -, hb, hc, hr, hq⟩ := O2.out.at_ hlt
        have hq2 := HLN.out k hlt
        rw [← HAT.out k hlt, ← hq] at hq2
        have hki : (k : Int) < (Z.length : Int) := by omega
        have hq0 : ((q : Int) == 0) = false := by rw [beq_eq_false_iff_ne]; omega
        have hqT : (q : Int) ≤ (T : Int) := by omega
        by_cases hf : k + 1 < Z.length
        · have hfq : (q : Int) = (T : Int) := by
            have h := HFU.out k hf
            rw [← HAT.out k hlt, ← hq] at h
            omega
          have hff : ((q : Int) != (T : Int)) = false := by rw [hfq]; simp
          have hfi : (k : Int) + 1 < (Z.length : Int) := by omega
          clear hr hq hq2 hfq
          go_wp2
          go_round
          case rel => exact ⟨k + 1, by omega, by go_num⟩
          case measure => simp [intOf]; omega
        · have hfi : decide ((k : Int) + 1 < (Z.length : Int)) = false := by simp; omega
          clear hr hq hq2
          go_wp2
          go_round
          case rel => exact ⟨k + 1, by omega, by go_num⟩
          case measure => simp [intOf]; omega
      · obtain rfl : k = Z.length := by omega
        go_wp2_with (go_at_call 7; refine (known14_any _).mono ?_; rintro e w' ⟨rfl, hb⟩)
        go_ret
        exact ⟨rfl, bgo B2.out hb⟩
end Go.Proofs.Ytbppdbfjhdhehaa
