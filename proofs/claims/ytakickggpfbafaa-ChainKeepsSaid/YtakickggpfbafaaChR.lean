/- The reference's Holds, ValidateChain, FindVersion. -/
import Derived.Test.YtakickggpfbafaaChL
import Derived.Test.YtakickggpfbafaaStepApp
import Derived.Test.YtakickggpfbafaaBel
import Derived.RegionTactic
import Derived.Deep.QuietTactic
import Derived.BigQuiet
import Derived.StillTailTactics
namespace Go.Proofs.Ytakickggpfbafaa
open Go.RowKit
set_option linter.unusedVariables false
set_option linter.unusedSimpArgs false
/-- A version of a row that can be read. -/
theorem RdVs.at_ {L : List Vs} {n cap : Nat} {a : Option Addr} {w : World} (h : RdVs L (.slice a n cap) w) {j : Nat} (hj : j < L.length) :
    ∃ b off, a = some ⟨b, off, none⟩ ∧ b < w.heap.size ∧ w.cell? ⟨b, off + j * 4, none⟩ = some (.int .i64 (L.getD j Vs.z).n) ∧ w.cell? ⟨b, off + j * 4 + 1, none⟩ = some (.int .i64 (L.getD j Vs.z).r) ∧ w.cell? ⟨b, off + j * 4 + 2, none⟩ = some (.int .i64 (L.getD j Vs.z).k) ∧ w.cell? ⟨b, off + j * 4 + 3, none⟩ = some (L.getD j Vs.z).s := by
  obtain ⟨-, a', cap', he, -, -, hcell⟩ := h
  simp only [Value.slice.injEq] at he
  obtain ⟨rfl, -, rfl⟩ := he
  obtain ⟨b, off, rfl, hbl, hc⟩ := hcell (by omega)
  obtain ⟨c0, c1, c2, c3⟩ := hc j hj
  exact ⟨b, off, rfl, hbl, c0, c1, c2, c3⟩
theorem rholds_any (f t c : Int) (w : World) :
    Calls Try.prog 26 #[.int .i64 f, .int .i64 t, .int .i64 c] w fun e w' => e = .returned (.bool (hldC f t c)) ∧ w = w' := by
  by_cases h1 : f ≤ c
  · by_cases h2 : c < t
    · have e : hldC f t c = true := by simp [hldC, h1, h2]
      rw [e]
      clear e
      go_enter Try.func26, Try.ntmps26
      go_wp2
      go_ret
      exact ⟨rfl, rfl⟩
    · by_cases h3 : t = 0
      · have e : hldC f t c = true := by simp [hldC, h1, h3]
        rw [e]
        clear e
        subst h3
        go_enter Try.func26, Try.ntmps26
        go_wp2
        go_ret
        exact ⟨rfl, rfl⟩
      · have e : hldC f t c = false := by simp [hldC, h2, h3]
        rw [e]
        clear e
        go_enter Try.func26, Try.ntmps26
        go_wp2
        go_ret
        exact ⟨by show Ending.returned (Value.bool (t == 0)) = _; rw [beq_eq_false_iff_ne.2 h3], rfl⟩
  · have e : hldC f t c = false := by simp [hldC, h1]
    rw [e]
    clear e
    go_enter Try.func26, Try.ntmps26
    go_wp2
    go_ret
    exact ⟨rfl, rfl⟩
set_option maxRecDepth 100000 in
set_option maxHeartbeats 1000000 in
theorem rfindc_any (L : List Vs) (v : Value) (c : Int) (w : World) (hv : RdVs L v w) (hL : L.length ≤ 1000000000000) :
    Calls Try.prog 10 #[v, .int .i64 c] w fun e w' => e = .returned (.tuple #[.int .i64 (fndI (fndC L c)), .bool (fndC L c).isSome]) ∧ Below w.heap.size w w' := by
  obtain ⟨a, cap, rfl⟩ := hv.shape
  have HV := Lib.hid hv
  clear hv
  go_enter Try.func10, Try.ntmps10
  go_wp2
  go_loopw [6] (fun i wr => ∃ q : Nat, q ≤ L.length ∧ i = .int .i64 (q : Int) ∧ Hid (∀ x, x < q → hldC (L.getD x Vs.z).n (L.getD x Vs.z).r c = false) ∧ Hid (Below w.heap.size w wr)) (fun i _ => L.length - (intOf i).toNat)
  case atStart => exact ⟨0, by omega, rfl, Lib.hid (fun x hx => by omega), Lib.hid (Below.refl _ _)⟩
  case round =>
    obtain ⟨q, hq, rfl, HN, HB⟩ := hrel
    by_cases hlt : q < L.length
    · have hqi : (q : Int) < (L.length : Int) := by omega
      obtain ⟨b, off, rfl, hbl, c0, c1, c2, c3⟩ := (HV.out.below HB.out).at_ hlt
      clear c2 c3
      have HIT := Lib.hid (fun h => fndC_hit HN.out hlt h)
      have HNX : Hid (hldC (L.getD q Vs.z).n (L.getD q Vs.z).r c = false → ∀ x, x < q + 1 → hldC (L.getD x Vs.z).n (L.getD x Vs.z).r c = false) := Lib.hid (fun h x hx => by
        rcases Nat.lt_or_ge x q with h' | h'
        · exact HN.out x h'
        · obtain rfl : x = q := by omega
          exact h)
      have hh := fun w => rholds_any (L.getD q Vs.z).n (L.getD q Vs.z).r c w
      generalize hldC (L.getD q Vs.z).n (L.getD q Vs.z).r c = r at *
      generalize (L.getD q Vs.z).n = m at *
      generalize (L.getD q Vs.z).r = t at *
      cases r with
      | true =>
        have HF := Lib.hid (HIT.out rfl)
        clear HIT HNX
        go_wp2
        go_quiet ((go_at_call 26; exact quiet_left (hh _)))
        go_wp2
        go_ret2
        exact ⟨by rw [HF.out]; rfl, below_drewN HB.out _⟩
      | false =>
        have HF := Lib.hid (HNX.out rfl)
        clear HIT HNX
        go_wp2
        go_quiet ((go_at_call 26; exact quiet_left (hh _)))
        go_wp2
        go_roundw
        case rel => exact ⟨q + 1, by omega, by go_num, HF, Lib.hid (below_drewN HB.out _)⟩
        case measure => simp [intOf]; omega
    · obtain rfl : q = L.length := by omega
      have HF := Lib.hid (fndC_miss HN.out)
      go_wp2
      go_ret2
      exact ⟨by rw [HF.out]; rfl, HB.out⟩
set_option maxRecDepth 100000 in
set_option maxHeartbeats 2000000 in
theorem rvalc_any (L : List Vs) (v : Value) (w : World) (hv : RdVs L v w) (hL : L.length ≤ 1000000000000) :
    Calls Try.prog 12 #[v] w fun e w' => e = .returned (.int .i64 (valC L)) ∧ Below w.heap.size w w' := by
  obtain ⟨a, cap, rfl⟩ := hv.shape
  have HV := Lib.hid hv
  clear hv
  go_enter Try.func12, Try.ntmps12
  go_wp2
  go_loopw [3, 4] (fun i p wr => ∃ q : Nat, q ≤ L.length ∧ i = .int .i64 (q : Int) ∧ Hid (∀ x, x < q → errC L x = 0) ∧ Hid (Below w.heap.size w wr)) (fun i _ _ => L.length - (intOf i).toNat)
  case atStart => exact ⟨0, by omega, rfl, Lib.hid (fun x hx => by omega), Lib.hid (Below.refl _ _)⟩
  case round =>
    obtain ⟨q, hq, rfl, HN, HB⟩ := hrel
    by_cases hlt : q < L.length
    · have hqi : (q : Int) < (L.length : Int) := by omega
      obtain ⟨b, off, rfl, hbl, c0, c1, c2, c3⟩ := (HV.out.below HB.out).at_ hlt
      have hok := (HV.out.1.at_ q)
      have HBAD := Lib.hid (fun (he : errC L q ≠ 0) => valC_bad HN.out hlt he)
      have HNX : Hid (errC L q = 0 → ∀ x, x < q + 1 → errC L x = 0) := Lib.hid (fun h x hx => by
        rcases Nat.lt_or_ge x q with h' | h'
        · exact HN.out x h'
        · obtain rfl : x = q := by omega
          exact h)
      have HE : Hid (errC L q = if (L.getD q Vs.z).n < 1 ∨ (L.getD q Vs.z).r < 0 ∨ (L.getD q Vs.z).k < 0 then 5 else if (L.getD q Vs.z).r ≠ 0 ∧ (L.getD q Vs.z).r ≤ (L.getD q Vs.z).n then 19 else if 0 < q ∧ ((L.getD (q - 1) Vs.z).r = 0 ∨ (L.getD q Vs.z).n < (L.getD (q - 1) Vs.z).r) then 19 else 0) := Lib.hid rfl
      obtain ⟨n, hn⟩ : ∃ n, (L.getD q Vs.z).n = n := ⟨_, rfl⟩
      obtain ⟨r, hr⟩ : ∃ r, (L.getD q Vs.z).r = r := ⟨_, rfl⟩
      obtain ⟨k, hk⟩ : ∃ k, (L.getD q Vs.z).k = k := ⟨_, rfl⟩
      obtain ⟨s, hs⟩ : ∃ s, (L.getD q Vs.z).s = s := ⟨_, rfl⟩
      obtain ⟨sa, sn, sc, rfl⟩ : ∃ a n c, s = .slice a n c := by rw [← hs]; exact hok.2.2.2
      rw [hn, hr, hk] at HE
      rw [hn] at c0
      rw [hr] at c1
      rw [hk] at c2
      rw [hs] at c3
      clear hok hn hr hk hs
      by_cases h1 : n < 1 ∨ r < 0 ∨ k < 0
      · have e5 : errC L q = 5 := by rw [HE.out, if_pos h1]
        have HF := Lib.hid (show valC L = 5 by rw [HBAD.out (by rw [e5]; decide), e5])
        clear e5 HE HBAD HNX
        by_cases g1 : n < 1
        · clear h1
          go_wp2
          go_ret
          exact ⟨by rw [HF.out]; rfl, bal HB.out _⟩
        · by_cases g2 : r < 0
          · clear h1
            go_wp2
            go_ret
            exact ⟨by rw [HF.out]; rfl, bal HB.out _⟩
          · have g3 : k < 0 := by omega
            clear h1
            go_wp2
            go_ret
            exact ⟨by rw [HF.out]; rfl, bal HB.out _⟩
      · have g1 : ¬ n < 1 := fun h => h1 (.inl h)
        have g2 : ¬ r < 0 := fun h => h1 (.inr (.inl h))
        have g3 : ¬ k < 0 := fun h => h1 (.inr (.inr h))
        have HE2 := Lib.hid (HE.out.trans (if_neg h1))
        clear HE h1
        by_cases h2 : r ≠ 0 ∧ r ≤ n
        · have e5 : errC L q = 19 := by rw [HE2.out, if_pos h2]
          have HF := Lib.hid (show valC L = 19 by rw [HBAD.out (by rw [e5]; decide), e5])
          obtain ⟨g4, g5⟩ := h2
          clear e5 HE2 HBAD HNX
          go_wp2
          go_ret
          exact ⟨by rw [HF.out]; rfl, bal HB.out _⟩
        · have HE3 := Lib.hid (HE2.out.trans (if_neg h2))
          have hall : r = 0 ∨ (¬ r = 0 ∧ ¬ r ≤ n) := by omega
          clear HE2 h2
          cases q with
          | zero =>
            have HF := Lib.hid (HNX.out (HE3.out.trans (if_neg (by omega))))
            clear HE3 HBAD HNX
            rcases hall with rfl | ⟨g4, g5⟩
            all_goals
              simp only [Nat.zero_mul, Nat.add_zero] at c0 c1 c2 c3
              go_wp2
              go_quiet (fail)
              go_wp2
              go_roundw
              case rel => exact ⟨1, by omega, by go_num, HF, Lib.hid (below_drewN (bal HB.out _) _)⟩
              case measure => simp [intOf]; omega
          | succ j =>
            obtain ⟨b', off', hbo, -, -, d1, -, -⟩ := (HV.out.below HB.out).at_ (j := j) (by omega)
            simp only [Option.some.injEq, Addr.mk.injEq, and_true] at hbo
            obtain ⟨rfl, rfl⟩ := hbo
            rw [show j + 1 - 1 = j from rfl] at HE3
            obtain ⟨y, hy⟩ : ∃ y, (L.getD j Vs.z).r = y := ⟨_, rfl⟩
            rw [hy] at d1 HE3
            clear hy
            have hj1 : IntKind.i64.wrap ((j : Int) + 1 - 1) = (j : Int) := by rw [IntKind.wrap_i64]; omega
            have hj2 : (0 : Int) < (j : Int) + 1 := by omega
            have hj3 : (j : Int) < (L.length : Int) := by omega
            have hj4 : wrap64 ((j : Int) + 1 - 1) = (j : Int) := by unfold wrap64; omega
            by_cases h4 : y = 0
            · have e5 : errC L (j + 1) = 19 := by rw [HE3.out, if_pos ⟨by omega, .inl h4⟩]
              have HF := Lib.hid (show valC L = 19 by rw [HBAD.out (by rw [e5]; decide), e5])
              clear e5 HE3 HBAD HNX
              subst h4
              rcases hall with rfl | ⟨g4, g5⟩
              all_goals
                go_wp2
                go_quiet (fail)
                go_wp2
                go_ret
                exact ⟨by rw [HF.out]; rfl, below_drewN (bal HB.out _) _⟩
            · by_cases h5 : n < y
              · have e5 : errC L (j + 1) = 19 := by rw [HE3.out, if_pos ⟨by omega, .inr h5⟩]
                have hj5 : IntKind.i64.wrap (j : Int) = (j : Int) := by rw [IntKind.wrap_i64]; omega
                have HF := Lib.hid (show valC L = 19 by rw [HBAD.out (by rw [e5]; decide), e5])
                clear e5 HE3 HBAD HNX
                rcases hall with rfl | ⟨g4, g5⟩
                all_goals
                  go_wp2
                  go_quiet (fail)
                  go_wp2
                  go_ret
                  exact ⟨by rw [HF.out]; rfl, below_drewN (bal HB.out _) _⟩
              · have HF := Lib.hid (HNX.out (HE3.out.trans (if_neg (by rintro ⟨-, h | h⟩; exact h4 h; exact h5 h))))
                have hj5 : IntKind.i64.wrap (j : Int) = (j : Int) := by rw [IntKind.wrap_i64]; omega
                have hy0 : (y == 0) = false := beq_eq_false_iff_ne.2 h4
                clear hj1 hj4
                clear HE3 HBAD HNX
                rcases hall with rfl | ⟨g4, g5⟩
                all_goals
                  go_wp2
                  go_quiet (fail)
                  go_wp2
                  go_roundw
                  case rel => exact ⟨j + 1 + 1, by omega, by go_num, HF, Lib.hid (below_drewN (bal HB.out _) _)⟩
                  case measure => simp [intOf]; omega
    · obtain rfl : q = L.length := by omega
      have HF := Lib.hid (valC_ok HN.out)
      go_wp2
      go_ret
      exact ⟨by rw [HF.out]; rfl, HB.out⟩
end Go.Proofs.Ytakickggpfbafaa
