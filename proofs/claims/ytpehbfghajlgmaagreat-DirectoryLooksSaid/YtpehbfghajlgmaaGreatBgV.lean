/- The reference's ValidateBindings. -/
import Derived.Test.YtpehbfghajlgmaaGreatBgR
import Derived.Deep.CutBlock
import Derived.Deep.CutRange
namespace Go.Proofs.YtpehbfghajlgmaaGreat
open Go.RowKit
set_option linter.unusedVariables false
set_option linter.unusedSimpArgs false
set_option maxRecDepth 100000 in
set_option maxHeartbeats 4000000 in
theorem rvalb_any (L : List Bg) (v : Value) (w : World) (hv : RdBg L v w) (hL : L.length ≤ 1000000000000) :
    Calls Tryz.prog 19 #[v] w fun e w' => e = .returned (.int .i64 (valB L)) ∧ Below w.heap.size w w' := by
  obtain ⟨a, cap, rfl⟩ := hv.shape
  have HV := Lib.hid hv
  clear hv
  go_enter Tryz.func19, Tryz.ntmps19
  go_wp2
  go_loopw [3, 4, 5] (fun i _ _ wr => ∃ q : Nat, q ≤ L.length ∧ i = .int .i64 (q : Int) ∧ Hid (∀ x, x < q → errB L x = 0) ∧ Hid (Below w.heap.size w wr)) (fun i _ _ _ => L.length - (intOf i).toNat)
  case atStart => exact ⟨0, by omega, rfl, Lib.hid (fun x hx => by omega), Lib.hid (Below.refl _ _)⟩
  case round =>
    obtain ⟨q, hq, rfl, HN, HB⟩ := hrel
    by_cases hlt : q < L.length
    · have hqi : (q : Int) < (L.length : Int) := by omega
      obtain ⟨b, off, rfl, hbl, c0, c1, c2, c3⟩ := (HV.out.below HB.out).at_ hlt
      have hok := (HV.out.1.at_ q)
      have HBAD := Lib.hid (fun (he : errB L q ≠ 0) => valB_bad HN.out hlt he)
      have HNX : Hid (errB L q = 0 → ∀ x, x < q + 1 → errB L x = 0) := Lib.hid (fun h x hx => by
        rcases Nat.lt_or_ge x q with h' | h'
        · exact HN.out x h'
        · obtain rfl : x = q := by omega
          exact h)
      have HE : Hid (errB L q = if nameB (byt (L.getD q Bg.z).n) = false then 6 else if (L.getD q Bg.z).r < 1 ∨ (L.getD q Bg.z).k < 1 ∨ (L.getD q Bg.z).s < 0 then 5 else if (L.getD q Bg.z).s ≠ 0 ∧ (L.getD q Bg.z).s ≤ (L.getD q Bg.z).k then 19 else if 0 < q ∧ (lessK (L.getD q Bg.z).n (L.getD (q - 1) Bg.z).n = true ∨ ((L.getD (q - 1) Bg.z).n = (L.getD q Bg.z).n ∧ ((L.getD q Bg.z).k ≤ (L.getD (q - 1) Bg.z).k ∨ (L.getD (q - 1) Bg.z).s = 0 ∨ (L.getD q Bg.z).k < (L.getD (q - 1) Bg.z).s))) then 19 else 0) := Lib.hid rfl
      obtain ⟨x, hx⟩ : ∃ x, L.getD q Bg.z = x := ⟨_, rfl⟩
      rw [hx] at c0 c1 c2 c3 hok HE
      clear hx
      obtain ⟨m, r, k, s⟩ := x
      have hms : m.size ≤ maxLen := hok.1
      simp only at c0 c1 c2 c3
      have HE : Hid (errB L q = if nameB (byt m) = false then 6 else if r < 1 ∨ k < 1 ∨ s < 0 then 5 else if s ≠ 0 ∧ s ≤ k then 19 else if 0 < q ∧ (lessK m (L.getD (q - 1) Bg.z).n = true ∨ ((L.getD (q - 1) Bg.z).n = m ∧ (k ≤ (L.getD (q - 1) Bg.z).k ∨ (L.getD (q - 1) Bg.z).s = 0 ∨ k < (L.getD (q - 1) Bg.z).s))) then 19 else 0) := HE
      have hnm := fun w => risName_any m w hms
      clear hok hms
      cases hn : nameB (byt m) with
      | false =>
        rw [hn] at hnm HE
        have e5 : errB L q = 6 := by rw [HE.out, if_pos rfl]
        have HF := Lib.hid (show valB L = 6 by rw [HBAD.out (by rw [e5]; decide), e5])
        clear e5 HE HBAD HNX hn
        go_wp2_with (go_at_call 30; refine (hnm _).mono ?_; rintro e w' ⟨rfl, rfl⟩)
        go_ret
        exact ⟨by rw [HF.out]; rfl, bal HB.out _⟩
      | true =>
        rw [hn] at hnm HE
        have HE1 := Lib.hid (HE.out.trans (if_neg (by decide)))
        clear HE hn
        by_cases h1 : r < 1 ∨ k < 1 ∨ s < 0
        · have e5 : errB L q = 5 := by rw [HE1.out, if_pos h1]
          have HF := Lib.hid (show valB L = 5 by rw [HBAD.out (by rw [e5]; decide), e5])
          clear e5 HE1 HBAD HNX
          by_cases g1 : r < 1
          · clear h1
            go_wp2_with (go_at_call 30; refine (hnm _).mono ?_; rintro e w' ⟨rfl, rfl⟩)
            go_ret
            exact ⟨by rw [HF.out]; rfl, bal HB.out _⟩
          · by_cases g2 : k < 1
            · clear h1
              go_wp2_with (go_at_call 30; refine (hnm _).mono ?_; rintro e w' ⟨rfl, rfl⟩)
              go_ret
              exact ⟨by rw [HF.out]; rfl, bal HB.out _⟩
            · have g3 : s < 0 := by omega
              clear h1
              go_wp2_with (go_at_call 30; refine (hnm _).mono ?_; rintro e w' ⟨rfl, rfl⟩)
              go_ret
              exact ⟨by rw [HF.out]; rfl, bal HB.out _⟩
        · have g1 : ¬ r < 1 := fun h => h1 (.inl h)
          have g2 : ¬ k < 1 := fun h => h1 (.inr (.inl h))
          have g3 : ¬ s < 0 := fun h => h1 (.inr (.inr h))
          have HE2 := Lib.hid (HE1.out.trans (if_neg h1))
          clear HE1 h1
          by_cases h2 : s ≠ 0 ∧ s ≤ k
          · have e5 : errB L q = 19 := by rw [HE2.out, if_pos h2]
            have HF := Lib.hid (show valB L = 19 by rw [HBAD.out (by rw [e5]; decide), e5])
            obtain ⟨g4, g5⟩ := h2
            have g6 : (s != 0) = true := by simpa using g4
            clear e5 HE2 HBAD HNX
            go_wp2_with (go_at_call 30; refine (hnm _).mono ?_; rintro e w' ⟨rfl, rfl⟩)
            go_ret
            exact ⟨by rw [HF.out]; rfl, bal HB.out _⟩
          · have HE3 := Lib.hid (HE2.out.trans (if_neg h2))
            have hall : s = 0 ∨ (¬ s = 0 ∧ ¬ s ≤ k) := by omega
            clear HE2 h2
            cases q with
            | zero =>
              have HF := Lib.hid (HNX.out (HE3.out.trans (if_neg (by omega))))
              clear HE3 HBAD HNX
              rcases hall with rfl | ⟨g4, g5⟩
              all_goals
                simp only [Nat.zero_mul, Nat.add_zero] at c0 c1 c2 c3
                go_wp2_with (go_at_call 30; refine (hnm _).mono ?_; rintro e w' ⟨rfl, rfl⟩)
                go_roundw
                case rel => exact ⟨1, by omega, by go_num, HF, Lib.hid (bal HB.out _)⟩
                case measure => simp [intOf]; omega
            | succ j =>
              obtain ⟨b', off', hbo, -, d0, d1, d2, d3⟩ := (HV.out.below HB.out).at_ (j := j) (by omega)
              simp only [Option.some.injEq, Addr.mk.injEq, and_true] at hbo
              obtain ⟨rfl, rfl⟩ := hbo
              rw [show j + 1 - 1 = j from rfl] at HE3
              obtain ⟨y, hy⟩ : ∃ y, L.getD j Bg.z = y := ⟨_, rfl⟩
              rw [hy] at d0 d1 d2 d3 HE3
              clear hy
              obtain ⟨m', r', k', s'⟩ := y
              simp only at d0 d1 d2 d3
              have HE3 : Hid (errB L (j + 1) = if 0 < j + 1 ∧ (lessK m m' = true ∨ (m' = m ∧ (k ≤ k' ∨ s' = 0 ∨ k < s'))) then 19 else 0) := HE3
              have hj1 : IntKind.i64.wrap ((j : Int) + 1 - 1) = (j : Int) := by rw [IntKind.wrap_i64]; omega
              have hj2 : (0 : Int) < (j : Int) + 1 := by omega
              have hj3 : (j : Int) < (L.length : Int) := by omega
              have hj4 : wrap64 ((j : Int) + 1 - 1) = (j : Int) := by unfold wrap64; omega
              have hj6 : ¬ ((j : Int) + 1 = 0) := by omega
              by_cases h4 : lessK m m' = true
              · have e5 : errB L (j + 1) = 19 := by rw [HE3.out, if_pos ⟨by omega, .inl h4⟩]
                have HF := Lib.hid (show valB L = 19 by rw [HBAD.out (by rw [e5]; decide), e5])
                have g7 : Op.bytesLess m'.toList m.toList = false := lessK_asym h4
                have g8 : (m'.toList == m.toList) = false := beq_eq_false_iff_ne.2 (fun h => by rw [toL_inj h, lessK_irr] at h4; cases h4)
                clear e5 HE3 HBAD HNX h4
                rcases hall with rfl | ⟨g4, g5⟩
                all_goals
                  go_wp2_with (go_at_call 30; refine (hnm _).mono ?_; rintro e w' ⟨rfl, rfl⟩)
                  go_ret
                  exact ⟨by rw [HF.out]; rfl, bal (bal HB.out _) _⟩
              · by_cases h5 : m' = m
                · have g7 : Op.bytesLess m'.toList m.toList = false := by rw [h5]; exact lessK_irr m
                  by_cases h6 : k ≤ k' ∨ s' = 0 ∨ k < s'
                  · have e5 : errB L (j + 1) = 19 := by rw [HE3.out, if_pos ⟨by omega, .inr ⟨h5, h6⟩⟩]
                    have HF := Lib.hid (show valB L = 19 by rw [HBAD.out (by rw [e5]; decide), e5])
                    clear e5 HE3 HBAD HNX h4
                    subst h5
                    by_cases h7 : k ≤ k'
                    · clear h6
                      rcases hall with rfl | ⟨g4, g5⟩
                      all_goals
                        go_wp2_with (go_at_call 30; refine (hnm _).mono ?_; rintro e w' ⟨rfl, rfl⟩)
                        go_ret
                        exact ⟨by rw [HF.out]; rfl, bal (bal HB.out _) _⟩
                    · by_cases h8 : s' = 0
                      · clear h6
                        subst h8
                        rcases hall with rfl | ⟨g4, g5⟩
                        all_goals
                          go_wp2_with (go_at_call 30; refine (hnm _).mono ?_; rintro e w' ⟨rfl, rfl⟩)
                          go_ret
                          exact ⟨by rw [HF.out]; rfl, bal (bal HB.out _) _⟩
                      · have h9 : k < s' := by omega
                        have h10 : (s' == 0) = false := by simpa using h8
                        clear h6
                        rcases hall with rfl | ⟨g4, g5⟩
                        all_goals
                          go_wp2_with (go_at_call 30; refine (hnm _).mono ?_; rintro e w' ⟨rfl, rfl⟩)
                          go_ret
                          exact ⟨by rw [HF.out]; rfl, bal (bal HB.out _) _⟩
                  · have HF := Lib.hid (HNX.out (HE3.out.trans (if_neg (by rintro ⟨-, h | h⟩; exact h4 h; exact h6 h.2))))
                    have h7 : ¬ k ≤ k' := fun h => h6 (.inl h)
                    have h8 : ¬ s' = 0 := fun h => h6 (.inr (.inl h))
                    have h9 : ¬ k < s' := fun h => h6 (.inr (.inr h))
                    have h10 : (s' == 0) = false := by simpa using h8
                    clear HE3 HBAD HNX h4 h6
                    subst h5
                    rcases hall with rfl | ⟨g4, g5⟩
                    all_goals
                      go_wp2_with (go_at_call 30; refine (hnm _).mono ?_; rintro e w' ⟨rfl, rfl⟩)
                      go_roundw
                      case rel => exact ⟨j + 1 + 1, by omega, by go_num, HF, Lib.hid (bal (bal HB.out _) _)⟩
                      case measure => simp [intOf]; omega
                · have HF := Lib.hid (HNX.out (HE3.out.trans (if_neg (by rintro ⟨-, h | h⟩; exact h4 h; exact h5 h.1))))
                  have h6 : (m'.toList == m.toList) = false := beq_eq_false_iff_ne.2 (fun h => h5 (toL_inj h))
                  have g7 : Op.bytesLess m'.toList m.toList = true := by
                    rcases lessK_tri m m' with h | h | h
                    · exact absurd h h4
                    · exact absurd h.symm h5
                    · exact h
                  clear HE3 HBAD HNX h4
                  rcases hall with rfl | ⟨g4, g5⟩
                  all_goals
                    go_wp2_with (go_at_call 30; refine (hnm _).mono ?_; rintro e w' ⟨rfl, rfl⟩)
                    go_roundw
                    case rel => exact ⟨j + 1 + 1, by omega, by go_num, HF, Lib.hid (bal (bal HB.out _) _)⟩
                    case measure => simp [intOf]; omega
    · obtain rfl : q = L.length := by omega
      clear hlt hq
      go_wp2
      go_loopw [6, 7] (fun i _ wr => ∃ q : Nat, q ≤ L.length ∧ i = .int .i64 (q : Int) ∧ Hid (¬ DupTo L q) ∧ Hid (Below w.heap.size w wr)) (fun i _ _ => L.length - (intOf i).toNat)
      case atStart => exact ⟨0, by omega, rfl, Lib.hid (by rintro ⟨i, k, h1, h2, -⟩; omega), HB⟩
      case round =>
        clear HB
        obtain ⟨q, hq, rfl, HD, HB⟩ := hrel
        by_cases hlt : q < L.length
        · have hqi : (q : Int) < (L.length : Int) := by omega
          go_wp2
          go_loopw [7] (fun i wr => ∃ p : Nat, p ≤ q ∧ i = .int .i64 (p : Int) ∧ Hid (∀ x, x < p → dupB (L.getD q Bg.z) (L.getD x Bg.z) = false) ∧ Hid (Below w.heap.size w wr)) (fun i _ => q - (intOf i).toNat)
          case atStart => exact ⟨0, by omega, rfl, Lib.hid (fun x hx => by omega), HB⟩
          case round =>
            clear HB
            obtain ⟨p, hp, rfl, HP, HB⟩ := hrel
            by_cases hlp : p < q
            · have hpi : (p : Int) < (q : Int) := by omega
              have hpl : (p : Int) < (L.length : Int) := by omega
              obtain ⟨b, off, rfl, hbl, c0, c1, c2, c3⟩ := (HV.out.below HB.out).at_ hlt
              obtain ⟨b', off', hbo, -, d0, d1, d2, d3⟩ := (HV.out.below HB.out).at_ (j := p) (by omega)
              simp only [Option.some.injEq, Addr.mk.injEq, and_true] at hbo
              obtain ⟨rfl, rfl⟩ := hbo
              have HHIT := Lib.hid (fun (h : dupB (L.getD q Bg.z) (L.getD p Bg.z) = true) => valB_dup HN.out ⟨q, p, hlp, hlt, h⟩)
              have HNX : Hid (dupB (L.getD q Bg.z) (L.getD p Bg.z) = false → ∀ x, x < p + 1 → dupB (L.getD q Bg.z) (L.getD x Bg.z) = false) := Lib.hid (fun h x hx => by
                rcases Nat.lt_or_ge x p with h' | h'
                · exact HP.out x h'
                · obtain rfl : x = p := by omega
                  exact h)
              obtain ⟨x, hx⟩ : ∃ x, L.getD q Bg.z = x := ⟨_, rfl⟩
              obtain ⟨y, hy⟩ : ∃ y, L.getD p Bg.z = y := ⟨_, rfl⟩
              rw [hx] at c0 c1 c2 c3
              rw [hy] at d0 d1 d2 d3
              rw [hx, hy] at HHIT
              have HNX : Hid (dupB x y = false → ∀ x, x < p + 1 → dupB (L.getD q Bg.z) (L.getD x Bg.z) = false) := Lib.hid (fun h => HNX.out (by rw [hx, hy]; exact h))
              clear hx hy
              obtain ⟨m, r, k, s⟩ := x
              obtain ⟨m', r', k', s'⟩ := y
              simp only at c0 c1 c2 c3 d0 d1 d2 d3
              have hh1 := fun w => rholds_any k' s' k w
              have hh2 := fun w => rholds_any k s k' w
              by_cases hr : r = r'
              · cases h1 : hldB k' s' k with
                | true =>
                  have HF := Lib.hid (HHIT.out (by simp [dupB, hr, h1]))
                  rw [h1] at hh1
                  clear HHIT HNX h1
                  subst hr
                  go_wp2
                  go_quiet ((go_at_call 34; first | (with_reducible exact quiet_left (hh1 _)) | (with_reducible exact quiet_left (hh2 _))))
                  go_wp2
                  go_ret
                  exact ⟨by rw [HF.out]; rfl, below_drewN HB.out _⟩
                | false =>
                  cases h2 : hldB k s k' with
                  | true =>
                    have HF := Lib.hid (HHIT.out (by simp [dupB, hr, h2]))
                    rw [h1] at hh1
                    rw [h2] at hh2
                    clear HHIT HNX h1 h2
                    subst hr
                    go_wp2
                    go_quiet ((go_at_call 34; first | (with_reducible exact quiet_left (hh1 _)) | (with_reducible exact quiet_left (hh2 _))))
                    go_wp2
                    go_ret
                    exact ⟨by rw [HF.out]; rfl, below_drewN HB.out _⟩
                  | false =>
                    have HF := Lib.hid (HNX.out (by simp [dupB, h1, h2]))
                    rw [h1] at hh1
                    rw [h2] at hh2
                    clear HHIT HNX h1 h2
                    subst hr
                    go_wp2
                    go_quiet ((go_at_call 34; first | (with_reducible exact quiet_left (hh1 _)) | (with_reducible exact quiet_left (hh2 _))))
                    go_wp2
                    go_roundw
                    case rel => exact ⟨p + 1, by omega, by go_num, HF, Lib.hid (below_drewN HB.out _)⟩
                    case measure => simp [intOf]; omega
              · have HF := Lib.hid (HNX.out (by simp [dupB, hr]))
                have hr2 : (r == r') = false := by simpa using hr
                clear HHIT HNX
                go_wp2
                go_quiet (fail)
                go_wp2
                go_roundw
                case rel => exact ⟨p + 1, by omega, by go_num, HF, Lib.hid (below_drewN HB.out _)⟩
                case measure => simp [intOf]; omega
            · obtain rfl : p = q := by omega
              have HD2 := Lib.hid (DupTo.step HD.out HP.out)
              go_wp2
              go_roundw
              case rel => exact ⟨p + 1, by omega, by go_num, HD2, HB⟩
              case measure => simp [intOf]; omega
        · obtain rfl : q = L.length := by omega
          have HF := Lib.hid (valB_ok HN.out HD.out)
          go_wp2
          go_ret
          exact ⟨by rw [HF.out]; rfl, HB.out⟩
end Go.Proofs.YtpehbfghajlgmaaGreat
