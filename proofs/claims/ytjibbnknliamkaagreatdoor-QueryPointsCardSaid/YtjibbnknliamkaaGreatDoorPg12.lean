/- PRVal, RkA, RkS, RkH, RkU, RkI, Sk: in one text. -/
import Derived.Test.YtjibbnknliamkaaGreatDoorPg11
import Derived.Test.YtjibbnknliamkaaGreatDoorPg01
import Derived.Test.YtjibbnknliamkaaGreatDoorProg
import Derived.Test.YtjibbnknliamkaaGreatDoorPg00
import Derived.Test.YtjibbnknliamkaaGreatDoorPg03
import Derived.Test.YtjibbnknliamkaaGreatDoorPg10
import Derived.Test.YtjibbnknliamkaaGreatDoorShelf
import Derived.Test.YtjibbnknliamkaaGreatDoorPg08
import Derived.Test.YtjibbnknliamkaaGreatDoorPg05
import Derived.Test.YtjibbnknliamkaaGreatDoorPg02
import Derived.Test.YtjibbnknliamkaaGreatDoorPg04
import Derived.Test.YtjibbnknliamkaaGreatDoorPg06
import Derived.Deep.QuietTactic
import Derived.BigQuiet
import Derived.Deep.RegionLaw
import Derived.Lib.Hide
import Derived.WalkKit
import Derived.ProofKit
import Derived.Handy
import Derived.Shelf.Small.Bits
import Derived.Shelf.Strconv.Itoa0
import Derived.Shelf.Bits.Mul64
import Derived.Shelf.Spec.TrailingZeros
import Derived.Lib.TrailingZeros
import Derived.Sort.OwnSorted
import Derived.Sort.Walk0
import Derived.ScopeJumps
import Derived.WalkMore
namespace Go.Proofs.YtjibbnknliamkaaGreatDoor
open Go.RowKit
set_option linter.unusedVariables false
set_option linter.unusedSimpArgs false
theorem isSz_any_2 (S : Int) (w : World) : Calls Tryz.prog 147 #[.int .i64 S] w fun e w' => e = .returned (.bool (szR S)) ∧ w = w' := by
  unfold szR
  by_cases h2 : 2 ≤ S
  · have hm : Int.tmod S 2 = S % 2 := Int.tmod_eq_emod_of_nonneg (by omega)
    go_enter Tryz.func147, Tryz.ntmps147
    go_wp2
    all_goals
      go_ret
      exact ⟨ret_bool (by first | rfl | (rw [Bool.eq_iff_iff]; simp [*] <;> omega)), rfl⟩
  · go_enter Tryz.func147, Tryz.ntmps147
    go_wp2
    all_goals
      go_ret
      exact ⟨ret_bool (by first | rfl | (rw [Bool.eq_iff_iff]; simp [*] <;> omega)), rfl⟩
theorem isTt_any_2 (S : Int) (w : World) : Calls Tryz.prog 148 #[.int .i64 S] w fun e w' => e = .returned (.bool (ttR S)) ∧ w = w' := by
  unfold ttR
  go_enter Tryz.func148, Tryz.ntmps148
  go_wp2
  all_goals
    go_ret
    exact ⟨ret_bool (by first | rfl | (rw [Bool.eq_iff_iff]; simp [*] <;> omega)), rfl⟩
set_option maxRecDepth 100000 in
set_option maxHeartbeats 2000000 in
theorem vlevel_any (S : Int) (l : List ByteArray) (v : Value) (w : World) (hr : RdS l v w) (hk : SOk l) (hn : l.length ≤ 549755813888) :
    Calls Tryz.prog 149 #[v, .int .i64 S] w fun e w' => e = .returned (.int .i64 (lvlE S l)) ∧ w = w' := by
  obtain ⟨a, cap, rfl⟩ := hr.shape
  have HR := Lib.hid hr
  have HK := Lib.hid hk
  clear hr hk
  unfold lvlE
  by_cases hl : S ≤ (l.length : Int)
  · rw [if_pos hl]
    go_enter Tryz.func149, Tryz.ntmps149
    go_wp2
    go_ret
    exact ⟨rfl, rfl⟩
  · rw [if_neg hl]
    obtain ⟨V, hV⟩ : ∃ V, V = lvgo ⟨#[]⟩ l := ⟨_, rfl⟩
    rw [← hV]
    have HV0 : Hid (lvgo (prevS l 0) (l.drop 0) = V) := Lib.hid (by rw [hV, prevS_zero, List.drop_zero])
    clear hV
    go_enter Tryz.func149, Tryz.ntmps149
    go_wp2
    go_loopw [5, 7, 14] (fun p _ i wr => ∃ j : Nat, j ≤ l.length ∧ i = .int .i64 (j : Int) ∧ p = .string (prevS l j) ∧ Hid (lvgo (prevS l j) (l.drop j) = V) ∧ w = wr) (fun _ _ i _ => l.length - (intOf i).toNat)
    case atStart => exact ⟨0, by omega, rfl, rfl, HV0, rfl⟩
    case round =>
      clear HV0
      obtain ⟨j, hj, rfl, rfl, HV, rfl⟩ := hrel
      by_cases hlt : j < l.length
      · have hlt2 : (j : Int) < (l.length : Int) := by omega
        have hv := HV.out
        rw [drop_getD (d := ByteArray.empty) hlt] at hv
        unfold lvgo at hv
        obtain ⟨b, off, rfl, hb, hc⟩ := HR.out.cell hlt
        have HPS := Lib.hid (prevS_succ l j)
        have hky := fun w => isKey_any (l.getD j ByteArray.empty) w (HK.out.at_ j)
        generalize prevS l j = P at *
        generalize l.getD j ByteArray.empty = X at *
        cases hK : keyB (byt X) with
        | false =>
          have hE : keyE P X = 7 := by unfold keyE; rw [hK]; rfl
          rw [hE, if_pos (by decide)] at hv
          subst hv
          rw [hK] at hky
          clear hK hE
          go_wp2_with (go_at_call 26; refine (hky _).mono ?_; rintro e w' ⟨rfl, rfl⟩)
          go_ret
          exact ⟨rfl, rfl⟩
        | true =>
          rw [hK] at hky
          cases hL : lessK X P with
          | true =>
            have hE : keyE P X = 19 := by unfold keyE; rw [hK, hL]; rfl
            rw [hE, if_pos (by decide)] at hv
            subst hv
            unfold lessK at hL
            clear hK hE
            go_wp2_with (go_at_call 26; refine (hky _).mono ?_; rintro e w' ⟨rfl, rfl⟩)
            go_ret
            exact ⟨rfl, rfl⟩
          | false =>
            have hE : keyE P X = 0 := by unfold keyE; rw [hK, hL]; rfl
            rw [hE, if_neg (by decide)] at hv
            have HV2 := Lib.hid hv
            unfold lessK at hL
            clear hK hE hv
            go_wp2_with (go_at_call 26; refine (hky _).mono ?_; rintro e w' ⟨rfl, rfl⟩)
            exact ⟨⟨j + 1, by omega, by go_num, by rw [HPS.out], Lib.hid (by rw [HPS.out]; exact HV2.out), trivial⟩, by simp [intOf]; omega⟩
      · obtain rfl : j = l.length := by omega
        have hnlt : ¬ (l.length : Int) < (l.length : Int) := by omega
        have hv := HV.out
        rw [List.drop_length] at hv
        unfold lvgo at hv
        subst hv
        clear HV
        go_wp2
        go_ret
        exact ⟨rfl, rfl⟩
theorem pow40 {j : Nat} (h : j ≤ 40) : 2 ^ j ≤ 1099511627776 := Nat.le_trans (Nat.pow_le_pow_right (by decide) h) (by decide)
theorem wr_pow (s n j : Nat) (h : s + n * 2 ^ j ≤ 4611686018427387904) : wrap64 ((s : Int) + (n : Int) * 2 ^ j) = ((s + n * 2 ^ j : Nat) : Int) := by
  have e : (n : Int) * 2 ^ j = ((n * 2 ^ j : Nat) : Int) := by simp
  rw [e]
  generalize n * 2 ^ j = q at *
  unfold wrap64
  omega
theorem wr_mul (n j : Nat) (h : n * 2 ^ j ≤ 4611686018427387904) : IntKind.i64.wrap ((n : Int) * 2 ^ j) = (n : Int) * 2 ^ j := by
  have e : (n : Int) * 2 ^ j = ((n * 2 ^ j : Nat) : Int) := by simp
  rw [e]
  generalize n * 2 ^ j = q at *
  rw [IntKind.wrap_i64]
  omega
set_option maxRecDepth 100000 in
set_option maxHeartbeats 2000000 in
theorem insN_any (L : List (List ByteArray)) (v : Value) (w : World) (hr : RdL_2 L v w) (hm : ∀ l ∈ L, l.length ≤ 31) (hn : L.length ≤ 41) :
    Calls Tryz.prog 150 #[v] w fun e w' => e = .returned (.int .i64 (insN 0 L : Nat)) ∧ w = w' := by
  obtain ⟨a, cap, rfl⟩ := hr.shape
  have HR := Lib.hid hr
  have HM := Lib.hid (fun k : Nat => insN_bd (L.take k) 0 31 (fun l hl => hm l (List.mem_of_mem_take hl)))
  have HM1 := Lib.hid hm
  clear hr hm
  go_enter Tryz.func150, Tryz.ntmps150
  go_wp2
  go_loopw [3, 4, 5, 8] (fun s _ _ i wr => ∃ j : Nat, j ≤ L.length ∧ i = .int .i64 (j : Int) ∧ s = .int .i64 (insN 0 (L.take j) : Nat) ∧ w = wr) (fun _ _ _ i _ => L.length - (intOf i).toNat)
  case atStart => exact ⟨0, by omega, rfl, rfl, rfl⟩
  case round =>
    obtain ⟨j, hj, rfl, rfl, rfl⟩ := hrel
    by_cases hlt : j < L.length
    · have hlt2 : (j : Int) < (L.length : Int) := by omega
      obtain ⟨b, off, u, m, c, rfl, -, hb, hc, -, rfl⟩ := HR.out.at_ hlt
      have h1 := HM.out j
      have h2 := insN_take hlt
      have h3 := HM1.out _ (getD_mem (d := []) hlt)
      rw [List.length_take, Nat.min_eq_left hj] at h1
      simp only [Nat.pow_zero, Nat.zero_add, Nat.mul_one] at h1
      generalize (L.getD j []).length = n at *
      generalize insN 0 (L.take j) = s at *
      have hp := pow40 (show j ≤ 40 by omega)
      have h4 : n * 2 ^ j ≤ 31 * 2 ^ j := Nat.mul_le_mul_right _ h3
      have h5 : s + n * 2 ^ j ≤ 4611686018427387904 := by
        generalize n * 2 ^ j = q at *
        generalize 2 ^ j = r at *
        omega
      have e1 := wr_mul n j (by omega)
      have HW := Lib.hid (wr_pow s n j h5)
      clear h1 h4 hp h5
      go_wp2
      exact ⟨⟨j + 1, by omega, by go_num, by rw [h2, ← HW.out], trivial⟩, by simp [intOf]; omega⟩
    · obtain rfl : j = L.length := by omega
      have hnlt : ¬ (L.length : Int) < (L.length : Int) := by omega
      rw [List.take_length]
      go_wp2
      go_ret
      exact ⟨rfl, rfl⟩
/-- Levels that a machine can hold. -/
def LOk (L : List (List ByteArray)) : Prop := L.length ≤ 549755813888 ∧ ∀ l ∈ L, l.length ≤ 549755813888 ∧ SOk l
theorem LOk.at_ {L : List (List ByteArray)} (h : LOk L) (k : Nat) : (L.getD k []).length ≤ 549755813888 ∧ SOk (L.getD k []) := by
  by_cases hk : k < L.length
  · exact h.2 _ (getD_mem hk)
  · rw [show L.getD k [] = [] by simp [List.getD, List.getElem?_eq_none (Nat.le_of_not_lt hk)]]
    exact ⟨Nat.zero_le _, fun x hx => by cases hx⟩
set_option maxRecDepth 100000 in
set_option maxHeartbeats 4000000 in
theorem pvalR_any (S T K : Int) (L : List (List ByteArray)) (s : Bool) (a : Option Addr) (n cap : Nat) (w : World) (hr : RdL_2 L (.slice a n cap) w) (hk : LOk L) :
    Calls Tryz.prog 110 #[.agg #[.int .i64 S, .int .i64 T, .int .i64 K, .slice a n cap, .bool s]] w fun e w' => e = .returned (.int .i64 (valR S T K L)) ∧ Below w.heap.size w w' := by
  obtain ⟨a', cap', he⟩ := hr.shape
  simp only [Value.slice.injEq] at he
  obtain ⟨rfl, rfl, rfl⟩ := he
  have hn := hk.1
  have HR := Lib.hid hr
  have HK := Lib.hid hk
  clear hr hk
  have hz := fun w => isSz_any_2 S w
  have ht := fun w => isTt_any_2 T w
  have hk := fun w => isTt_any_2 K w
  cases hp : parR S T K with
  | false =>
    rw [show valR S T K L = 5 by unfold valR; rw [hp, if_pos rfl]]
    unfold parR at hp
    generalize szR S = bs at *
    generalize ttR T = bt at *
    generalize ttR K = bk at *
    rcases par3 _ _ _ hp with rfl | ⟨rfl, rfl⟩ | ⟨rfl, rfl, rfl⟩
    all_goals
      clear hp
      go_enter Tryz.func110, Tryz.ntmps110
      go_wp2_with (first
        | (go_at_call 147; (with_reducible refine (hz _).mono ?_); rintro e w' ⟨rfl, rfl⟩)
        | (go_at_call 148; first | ((with_reducible refine (ht _).mono ?_); rintro e w' ⟨rfl, rfl⟩) | ((with_reducible refine (hk _).mono ?_); rintro e w' ⟨rfl, rfl⟩)))
      go_ret
      exact ⟨rfl, b1 _⟩
  | true =>
    have HX0 : Hid (valR S T K L = if 41 < L.length then 11 else if lvsE S L ≠ 0 then lvsE S L else if lastE L = true then 18 else if (insN 0 L : Int) ≠ T then 17 else 0) := Lib.hid (by unfold valR; rw [hp, if_neg (by simp)])
    obtain ⟨⟨p1, p2, p3⟩, ⟨p4, p5⟩, p6, p7⟩ := (parR_iff S T K).1 hp
    rw [(szR_iff S).2 ⟨p1, p2, p3⟩] at hz
    rw [(ttR_iff T).2 ⟨p4, p5⟩] at ht
    rw [(ttR_iff K).2 ⟨p6, p7⟩] at hk
    clear hp p1 p3 p4 p5 p6 p7
    by_cases hl : 41 < L.length
    · rw [HX0.out, if_pos hl]
      go_enter Tryz.func110, Tryz.ntmps110
      go_wp2_with (first
        | (go_at_call 147; (with_reducible refine (hz _).mono ?_); rintro e w' ⟨rfl, rfl⟩)
        | (go_at_call 148; first | ((with_reducible refine (ht _).mono ?_); rintro e w' ⟨rfl, rfl⟩) | ((with_reducible refine (hk _).mono ?_); rintro e w' ⟨rfl, rfl⟩)))
      go_ret
      exact ⟨rfl, b1 _⟩
    · obtain ⟨X, hX⟩ : ∃ X, X = valR S T K L := ⟨_, rfl⟩
      rw [← hX]
      have HX : Hid (X = if lvsE S L ≠ 0 then lvsE S L else if lastE L = true then 18 else if (insN 0 L : Int) ≠ T then 17 else 0) := Lib.hid (by rw [hX, HX0.out, if_neg hl])
      clear hX HX0
      have d2 : ¬ (41 : Int) < (L.length : Int) := by omega
      obtain ⟨V, hV⟩ : ∃ V, V = lvsE S L := ⟨_, rfl⟩
      rw [← hV] at HX
      have HV := Lib.hid hV
      have HPB := Lib.hid p2
      clear hV p2
      have HS0 : Hid (MR w w.heap.size ⟨S, T, K, L, s⟩ (.slice a L.length cap) (w.alloc (.cells #[.int .i64 S, .int .i64 T, .int .i64 K, .slice a L.length cap, .bool s] 46))) := Lib.hid ⟨RsS.new S T K (.slice a L.length cap) s 46 w, HR.out.below (b1 _), b1 _⟩
      go_enter Tryz.func110, Tryz.ntmps110
      go_wp2_with (first
        | (go_at_call 147; (with_reducible refine (hz _).mono ?_); rintro e w' ⟨rfl, rfl⟩)
        | (go_at_call 148; first | ((with_reducible refine (ht _).mono ?_); rintro e w' ⟨rfl, rfl⟩) | ((with_reducible refine (hk _).mono ?_); rintro e w' ⟨rfl, rfl⟩)))
      clear hz ht hk d2
      go_loopw [4, 5, 30] (fun _ _ i wr => ∃ j : Nat, j ≤ L.length ∧ i = .int .i64 (j : Int) ∧ Hid (MR w w.heap.size ⟨S, T, K, L, s⟩ (.slice a L.length cap) wr) ∧ Hid (lvsE S (L.drop j) = V)) (fun _ _ i _ => L.length - (intOf i).toNat)
      case atStart => exact ⟨0, by omega, rfl, HS0, Lib.hid (by rw [List.drop_zero]; exact HV.out.symm)⟩
      case round =>
        clear HS0
        obtain ⟨j, hj, rfl, HI, HVJ⟩ := hrel
        obtain ⟨⟨s0, s1, s2, s3, s4⟩, -⟩ := HI.out.1
        by_cases hlt : j < L.length
        · have hlt2 : (j : Int) < (L.length : Int) := by omega
          have hv := HVJ.out
          rw [drop_getD (d := []) hlt] at hv
          unfold lvsE at hv
          obtain ⟨b, off, u, m, c, rfl, -, hb, hc, hrd, rfl⟩ := HI.out.2.1.at_ hlt
          have hky := fun w' (h : Below wr.heap.size wr w') => vlevel_any S (L.getD j []) _ w' (hrd.below h) (HK.out.at_ j).2 (HK.out.at_ j).1
          have HKY := Lib.hid (hky wr (Below.refl _ _))
          have HE0 := lvlE_bd S (L.getD j [])
          clear hky hrd
          generalize lvlE S (L.getD j []) = E at *
          generalize (L.getD j []).length = ll at *
          by_cases hE : E = 0
          · subst hE
            rw [if_neg (by decide)] at hv
            have HV2 := Lib.hid hv
            clear hv
            go_wp2_with (go_at_call 149; (with_reducible refine HKY.out.mono ?_); rintro e w' ⟨rfl, rfl⟩)
            exact ⟨⟨j + 1, by omega, by go_num, HI, HV2⟩, by simp [intOf]; omega⟩
          · rw [if_pos hE] at hv
            subst hv
            have hE2 : (E == 0) = false := by simpa using hE
            have hE3 : (E != 0) = true := by simpa using hE
            have HX2 := Lib.hid (HX.out.trans (if_pos hE))
            clear hE HX
            go_wp2_with (go_at_call 149; (with_reducible refine HKY.out.mono ?_); rintro e w' ⟨rfl, rfl⟩)
            go_ret
            exact ⟨by rw [HX2.out]; rfl, HI.out.2.2⟩
        · obtain rfl : j = L.length := by omega
          have hnlt : ¬ (L.length : Int) < (L.length : Int) := by omega
          have hv := HVJ.out
          rw [List.drop_length] at hv
          unfold lvsE at hv
          subst hv
          have HX2 := Lib.hid (HX.out.trans (if_neg (by decide)))
          have hgd := lvsE_zero HV.out.symm
          have HINS := Lib.hid (fun (m : Nat) => insN_any L (.slice a L.length cap) (wr.drewN m) (HI.out.2.1.below (below_drewN (Below.refl _ _) m)) (fun l hl => by have := (hgd l hl).1; have := HPB.out; omega) (by omega))
          have HINS0 := Lib.hid (insN_any L (.slice a L.length cap) wr HI.out.2.1 (fun l hl => by have := (hgd l hl).1; have := HPB.out; omega) (by omega))
          clear hgd HV HVJ HK HX
          cases hle : lastE L with
          | true =>
            have HX3 := Lib.hid (HX2.out.trans (if_pos hle))
            unfold lastE at hle
            simp only [Bool.and_eq_true, decide_eq_true_eq] at hle
            obtain ⟨q0, q1⟩ := hle
            have q2 : (0 : Int) < (L.length : Int) := by omega
            obtain ⟨b, off, u, m, c, rfl, -, hb, hc, -, hm⟩ := HI.out.2.1.at_ (k := L.length - 1) (show L.length - 1 < L.length by omega)
            rw [q1] at hm
            subst hm
            have q3 : IntKind.i64.wrap ((L.length : Int) - 1) = ((L.length - 1 : Nat) : Int) := by rw [IntKind.wrap_i64]; omega
            have q4 : wrap64 ((L.length : Int) - 1) = ((L.length - 1 : Nat) : Int) := by unfold wrap64; omega
            have q5 : ((L.length - 1 : Nat) : Int) < (L.length : Int) := by omega
            have q6 : L.length - 1 < L.length := by omega
            clear HX2
            go_wp2
            go_ret
            exact ⟨by rw [HX3.out]; rfl, HI.out.2.2⟩
          | false =>
            have HX3 : Hid (X = if (insN 0 L : Int) ≠ T then 17 else 0) := Lib.hid (HX2.out.trans (if_neg (by rw [hle]; simp)))
            clear HX2
            have HL0 : Hid (0 < L.length → 0 < (L.getD (L.length - 1) []).length) := Lib.hid (fun h => by
              unfold lastE at hle
              simp only [Bool.and_eq_false_iff, decide_eq_false_iff_not] at hle
              omega)
            clear hle
            by_cases hI : (insN 0 L : Int) = T
            · have HX4 := Lib.hid (HX3.out.trans (if_neg (by simpa using hI)))
              have hI2 : ((insN 0 L : Int) == T) = true := by simpa using hI
              have hI3 : ((insN 0 L : Int) != T) = false := by simpa using hI
              clear HX3 hI
              generalize insN 0 L = II at *
              by_cases h0 : L.length = 0
              · have q2 : ¬ (0 : Int) < (L.length : Int) := by omega
                clear h0 HL0
                go_wp2
                go_quiet ((go_at_call 150; exact quiet_left (HINS.out _)))
                go_wp2
                go_ret
                exact ⟨by rw [HX4.out]; rfl, below_drewN HI.out.2.2 _⟩
              · have q2 : (0 : Int) < (L.length : Int) := by omega
                obtain ⟨b, off, u, m, c, rfl, -, hb, hc, -, hm⟩ := HI.out.2.1.at_ (k := L.length - 1) (show L.length - 1 < L.length by omega)
                have hm2 : 0 < m := by
                  have := HL0.out (by omega)
                  rw [hm]
                  exact this
                have q3 : IntKind.i64.wrap ((L.length : Int) - 1) = ((L.length - 1 : Nat) : Int) := by rw [IntKind.wrap_i64]; omega
                have q4 : wrap64 ((L.length : Int) - 1) = ((L.length - 1 : Nat) : Int) := by unfold wrap64; omega
                have q5 : ((L.length - 1 : Nat) : Int) < (L.length : Int) := by omega
                have q6 : L.length - 1 < L.length := by omega
                have q7 : ((m : Int) == 0) = false := by simp; omega
                have q8 : ((m : Int) = 0) = False := by simp; omega
                clear h0 HL0 hm hm2
                go_wp2
                go_quiet ((go_at_call 150; exact quiet_left (HINS.out _)))
                go_wp2
                go_ret
                exact ⟨by rw [HX4.out]; rfl, below_drewN HI.out.2.2 _⟩
            · have HX4 := Lib.hid (HX3.out.trans (if_pos hI))
              have hI2 : ((insN 0 L : Int) == T) = false := by simpa using hI
              have hI3 : ((insN 0 L : Int) != T) = true := by simpa using hI
              clear HX3 hI
              generalize insN 0 L = II at *
              by_cases h0 : L.length = 0
              · have q2 : ¬ (0 : Int) < (L.length : Int) := by omega
                clear h0 HL0
                go_wp2
                go_quiet ((go_at_call 150; exact quiet_left (HINS.out _)))
                go_wp2
                go_ret
                exact ⟨by rw [HX4.out]; rfl, below_drewN HI.out.2.2 _⟩
              · have q2 : (0 : Int) < (L.length : Int) := by omega
                obtain ⟨b, off, u, m, c, rfl, -, hb, hc, -, hm⟩ := HI.out.2.1.at_ (k := L.length - 1) (show L.length - 1 < L.length by omega)
                have hm2 : 0 < m := by
                  have := HL0.out (by omega)
                  rw [hm]
                  exact this
                have q3 : IntKind.i64.wrap ((L.length : Int) - 1) = ((L.length - 1 : Nat) : Int) := by rw [IntKind.wrap_i64]; omega
                have q4 : wrap64 ((L.length : Int) - 1) = ((L.length - 1 : Nat) : Int) := by unfold wrap64; omega
                have q5 : ((L.length - 1 : Nat) : Int) < (L.length : Int) := by omega
                have q6 : L.length - 1 < L.length := by omega
                have q7 : ((m : Int) == 0) = false := by simp; omega
                have q8 : ((m : Int) = 0) = False := by simp; omega
                clear h0 HL0 hm hm2
                go_wp2
                go_quiet ((go_at_call 150; exact quiet_left (HINS.out _)))
                go_wp2
                go_ret
                exact ⟨by rw [HX4.out]; rfl, below_drewN HI.out.2.2 _⟩
end Go.Proofs.YtjibbnknliamkaaGreatDoor
namespace Go.Proofs.YtjibbnknliamkaaGreatDoor
open Go.RowKit
set_option linter.unusedVariables false
set_option linter.unusedSimpArgs false
theorem OwnL_2.keep {B : Nat} {L : List (List ByteArray)} {us : List Value} {v : Value} {w w' : World} (h : OwnL_2 B L us v w) (hk : ∀ g, B ≤ g → g < w.heap.size → w'.heap[g]? = w.heap[g]?) : OwnL_2 B L us v w' :=
  ⟨h.1.keep (fun g hg e => hk g (h.1.lt e).1 hg), ⟨h.2.1.1, fun j hj => (h.2.1.2 j hj).keep (fun g hg e => hk g ((h.2.1.2 j hj).lt e).1 hg)⟩, h.2.2⟩
end Go.Proofs.YtjibbnknliamkaaGreatDoor
namespace Go.Proofs.YtjibbnknliamkaaGreatDoor
open Go.RowKit
set_option linter.unusedVariables false
set_option linter.unusedSimpArgs false
theorem Asc.drop {l : List ByteArray} (h : Asc l) (k : Nat) : Asc (l.drop k) := List.Pairwise.sublist (List.drop_sublist k l) h
end Go.Proofs.YtjibbnknliamkaaGreatDoor
namespace Go.Proofs.YtjibbnknliamkaaGreatDoor
open Go.RowKit
set_option linter.unusedVariables false
set_option linter.unusedSimpArgs false
section
variable {g : Nat} {v : Value} {a K : Int} {w w' : World}
end
section
variable {W : World} {gf : Nat} {v : Value} {a K : Int} {g c : Nat} {C : List (List ByteArray)} {us : List Value} {w w' : World}
end
end Go.Proofs.YtjibbnknliamkaaGreatDoor
namespace Go.Proofs.YtjibbnknliamkaaGreatDoor
open Go.RowKit
set_option linter.unusedVariables false
set_option linter.unusedSimpArgs false
theorem RdL_2.none_ (w : World) : RdL_2 [] (.slice none 0 0) w := ⟨[], (OwnV.empty 0 w).rd, rfl, fun j hj => by cases hj⟩
theorem RsS.new1 (S T K : Int) (v : Value) (s : Bool) (t : TypeId) (p q : Obj) (w : World) : RsS w.heap.size S T K v s (((w.alloc (.cells #[.int .i64 S, .int .i64 T, .int .i64 K, v, .bool s] t)).alloc p).alloc q) := (RsS.new S T K v s t w).go (b2 p q)
theorem RsS.new2 (S T K : Int) (v : Value) (s : Bool) (t : TypeId) (o q : Obj) (w : World) : RsS (w.heap.size + 1) S T K v s (((w.alloc o).alloc (.cells #[.int .i64 S, .int .i64 T, .int .i64 K, v, .bool s] t)).alloc q) := by
  have h := (RsS.new S T K v s t (w.alloc o)).go (b1 q)
  rw [show (w.alloc o).heap.size = w.heap.size + 1 by simp] at h
  exact h
/-- Levels that stay readable whatever turns below block B. -/
def RdU (B : Nat) (L : List (List ByteArray)) (us : List Value) (v : Value) (w : World) : Prop := ∀ w' : World, w.heap.size ≤ w'.heap.size → (∀ g, B ≤ g → g < w.heap.size → w'.heap[g]? = w.heap[g]?) → RdV us v w' ∧ AllR L us w'
def RdB (B : Nat) (L : List (List ByteArray)) (v : Value) (w : World) : Prop := ∃ us, RdU B L us v w
theorem RdB.rd {B : Nat} {L : List (List ByteArray)} {v : Value} {w : World} (h : RdB B L v w) : RdL_2 L v w := by
  obtain ⟨us, h⟩ := h
  exact ⟨us, h w (Nat.le_refl _) (fun _ _ _ => rfl)⟩
theorem RdU.keep {B : Nat} {L : List (List ByteArray)} {us : List Value} {v : Value} {w w1 : World} (h : RdU B L us v w) (hs : w.heap.size ≤ w1.heap.size) (hk : ∀ g, B ≤ g → g < w.heap.size → w1.heap[g]? = w.heap[g]?) : RdU B L us v w1 :=
  fun w' h1 h2 => h w' (Nat.le_trans hs h1) (fun g hg hl => (h2 g hg (Nat.lt_of_lt_of_le hl hs)).trans (hk g hg hl))
theorem RdB.keep {B : Nat} {L : List (List ByteArray)} {v : Value} {w w1 : World} (h : RdB B L v w) (hs : w.heap.size ≤ w1.heap.size) (hk : ∀ g, B ≤ g → g < w.heap.size → w1.heap[g]? = w.heap[g]?) : RdB B L v w1 := by
  obtain ⟨us, h⟩ := h
  exact ⟨us, h.keep hs hk⟩
theorem RdB.below {B : Nat} {L : List (List ByteArray)} {v : Value} {w w1 : World} (h : RdB B L v w) (hb : Below w.heap.size w w1) : RdB B L v w1 := h.keep hb.size (fun g _ hl => hb.block g hl)
theorem RdB.mono {B B' : Nat} {L : List (List ByteArray)} {v : Value} {w : World} (h : RdB B L v w) (hB : B' ≤ B) : RdB B' L v w := by
  obtain ⟨us, h⟩ := h
  exact ⟨us, fun w' h1 h2 => h w' h1 (fun g hg hl => h2 g (Nat.le_trans hB hg) hl)⟩
theorem RdB.none_ (B : Nat) (w : World) : RdB B [] (.slice none 0 0) w := ⟨[], fun w' _ _ => ⟨(OwnV.empty 0 w').rd, rfl, fun j hj => by cases hj⟩⟩
def RbR (B : Nat) (t : RK) (v : Value) (w : World) : Prop := ∃ a n cap, v = .agg #[.int .i64 t.S, .int .i64 t.T, .int .i64 t.K, .slice a n cap, .bool t.s] ∧ RdB B t.L (.slice a n cap) w
theorem RbR.rd {B : Nat} {t : RK} {v : Value} {w : World} (h : RbR B t v w) : RdR t v w := by
  obtain ⟨a, n, c, rfl, h⟩ := h
  exact ⟨a, n, c, rfl, h.rd⟩
theorem RbR.below {B : Nat} {t : RK} {v : Value} {w w' : World} (h : RbR B t v w) (hb : Below w.heap.size w w') : RbR B t v w' := by
  obtain ⟨a, n, c, rfl, h⟩ := h
  exact ⟨a, n, c, rfl, h.below hb⟩
theorem RbR.mono {B B' : Nat} {t : RK} {v : Value} {w : World} (h : RbR B t v w) (hB : B' ≤ B) : RbR B' t v w := by
  obtain ⟨a, n, c, rfl, h⟩ := h
  exact ⟨a, n, c, rfl, h.mono hB⟩
theorem RbR.run {B : Nat} {t : RK} {v : Value} {w : World} (h : RbR B t v w) : ∃ a c, v = .agg #[.int .i64 t.S, .int .i64 t.T, .int .i64 t.K, .slice a t.L.length c, .bool t.s] ∧ RdB B t.L (.slice a t.L.length c) w := by
  obtain ⟨a, n, c, rfl, h⟩ := h
  obtain ⟨a', c', he⟩ := h.rd.shape
  simp only [Value.slice.injEq] at he
  obtain ⟨rfl, rfl, rfl⟩ := he
  exact ⟨a, c, rfl, h⟩
theorem RdR.run {t : RK} {v : Value} {w : World} (h : RdR t v w) : ∃ a c, v = .agg #[.int .i64 t.S, .int .i64 t.T, .int .i64 t.K, .slice a t.L.length c, .bool t.s] ∧ RdL_2 t.L (.slice a t.L.length c) w := by
  obtain ⟨a, n, c, rfl, h⟩ := h
  obtain ⟨a', c', he⟩ := h.shape
  simp only [Value.slice.injEq] at he
  obtain ⟨rfl, rfl, rfl⟩ := he
  exact ⟨a, c, rfl, h⟩
end Go.Proofs.YtjibbnknliamkaaGreatDoor
namespace Go.Proofs.YtjibbnknliamkaaGreatDoor
open Go.RowKit
set_option linter.unusedVariables false
set_option linter.unusedSimpArgs false
/-- A new summary. -/
def newR (S : Int) : RK := if szR S = true then ⟨S, 0, 0, [], false⟩ else RK.none
def newRE (S : Int) : Int := if szR S = true then 0 else 5
section
variable {W w w' : World} {a : RK} {v : Value} {k : ByteArray} {x : Int}
end
theorem pnewR_any (S : Int) (w : World) :
    Calls Tryz.prog 180 #[.int .i64 S] w fun e w' => ∃ v, e = .returned (.tuple #[v, .int .i64 (newRE S)]) ∧ RbR w.heap.size (newR S) v w' ∧ Below w.heap.size w w' := by
  have hz := fun w => isSz_any_2 S w
  unfold newRE newR
  cases hs : szR S
  · rw [hs] at hz
    rw [if_neg (by simp), if_neg (by simp)]
    clear hs
    go_enter Tryz.func180, Tryz.ntmps180
    go_wp2_with (go_at_call 147; refine (hz _).mono ?_; rintro e w' ⟨rfl, rfl⟩)
    refine bodyPost_ret (v := .tuple #[.agg #[.int .i64 0, .int .i64 0, .int .i64 0, .slice none 0 0, .bool false], .int .i64 5]) (by simp [results, Tryz.results180, go_sem, *]) rfl ⟨_, rfl, ⟨none, 0, 0, rfl, RdB.none_ _ _⟩, b1 _⟩
  · rw [hs] at hz
    rw [if_pos rfl, if_pos rfl]
    clear hs
    go_enter Tryz.func180, Tryz.ntmps180
    go_wp2_with (go_at_call 147; refine (hz _).mono ?_; rintro e w' ⟨rfl, rfl⟩)
    refine bodyPost_ret (v := .tuple #[.agg #[.int .i64 S, .int .i64 0, .int .i64 0, .slice none 0 0, .bool false], .int .i64 0]) (by simp [results, Tryz.results180, go_sem, *]) rfl ⟨_, rfl, ⟨none, 0, 0, rfl, RdB.none_ _ _⟩, b1 _⟩
end Go.Proofs.YtjibbnknliamkaaGreatDoor
namespace Go.Proofs.YtjibbnknliamkaaGreatDoor
open Go.RowKit
set_option linter.unusedVariables false
set_option linter.unusedSimpArgs false
/-- A sketch: the kind and its parameters, a tally, and a field of each other kind. -/
structure SK where
  k : Int
  S : Int
  D : Int
  x : Int
  tT : Int
  tI : Int
  tF : Bool
  c : CM
  l : LL
  t : TP
  f : FQ
  r : RK
/-- Its cells. -/
def skA (s : SK) (vc vl vt vf vr : Value) : Array Value :=
  #[.int .i64 s.k, .int .i64 s.S, .int .i64 s.D, .int .u64 s.x, .int .i64 s.tT, .int .i64 s.tI, .bool s.tF,
    .int .i64 s.c.D, .int .i64 s.c.S, .int .u64 s.c.x, vc, .bool s.c.s, .int .i64 s.l.P, .int .u64 s.l.x, vl,
    .int .i64 s.t.S, .int .i64 s.t.T, vt, .bool s.t.s, .int .i64 s.f.S, .int .i64 s.f.T, .int .i64 s.f.K, vf, .bool s.f.s,
    .int .i64 s.r.S, .int .i64 s.r.T, .int .i64 s.r.K, vr, .bool s.r.s]
/-- The rows of a sketch can be read. -/
def RowsK (s : SK) (vc vl vt vf vr : Value) (w : World) : Prop := RdI s.c.L vc w ∧ RdI s.l.L vl w ∧ RdE s.t.L vt w ∧ RdE s.f.L vf w ∧ RdL_2 s.r.L vr w
/-- A sketch that can be read. -/
def RdK (s : SK) (v : Value) (w : World) : Prop :=
  ∃ a1 n1 c1 a2 n2 c2 a3 n3 c3 a4 n4 c4 a5 n5 c5, v = .agg (skA s (.slice a1 n1 c1) (.slice a2 n2 c2) (.slice a3 n3 c3) (.slice a4 n4 c4) (.slice a5 n5 c5)) ∧ RowsK s (.slice a1 n1 c1) (.slice a2 n2 c2) (.slice a3 n3 c3) (.slice a4 n4 c4) (.slice a5 n5 c5) w
theorem RowsK.below {s : SK} {v1 v2 v3 v4 v5 : Value} {w w' : World} (h : RowsK s v1 v2 v3 v4 v5 w) (hb : Below w.heap.size w w') : RowsK s v1 v2 v3 v4 v5 w' :=
  ⟨h.1.below hb, h.2.1.below hb, h.2.2.1.below hb, h.2.2.2.1.below hb, h.2.2.2.2.below hb⟩
theorem RdK.below {s : SK} {v : Value} {w w' : World} (h : RdK s v w) (hb : Below w.heap.size w w') : RdK s v w' := by
  obtain ⟨a1, n1, c1, a2, n2, c2, a3, n3, c3, a4, n4, c4, a5, n5, c5, hv, hr⟩ := h
  exact ⟨a1, n1, c1, a2, n2, c2, a3, n3, c3, a4, n4, c4, a5, n5, c5, hv, hr.below hb⟩
/-- A sketch without anything. -/
def SK.z : SK := ⟨0, 0, 0, 0, 0, 0, false, CM.none, LL.none, TP.none, FQ.none, RK.none⟩
/-- Bounds of a sketch's numbers. -/
def I64 (n : Int) : Prop := -9223372036854775808 ≤ n ∧ n ≤ 9223372036854775807
def U64 (n : Int) : Prop := 0 ≤ n ∧ n ≤ 18446744073709551615
/-- The error of parameters. -/
def prmE (k S D x : Int) : Int :=
  if k = 1 then (if S = 0 ∧ D = 0 ∧ x = 0 then 0 else 10)
  else if k = 2 then newE D S
  else if k = 3 then (if newLE S = 0 then (if D = 0 then 0 else 10) else 5)
  else if k = 4 ∨ k = 5 then (if newTE S = 0 then (if D = 0 ∧ x = 0 then 0 else 10) else 5)
  else if k = 6 then (if newRE S = 0 then (if D = 0 ∧ x = 0 then 0 else 10) else 5)
  else 8
/-- A new sketch. -/
def nuK (k S D x : Int) : SK :=
  if prmE k S D x ≠ 0 then SK.z
  else ⟨k, S, D, x, 0, 0, false, if k = 2 then newC D S x else CM.none, if k = 3 then newL S x else LL.none,
    if k = 4 then newT S else TP.none, if k = 5 then newQ S else FQ.none, if k = 6 then newR S else RK.none⟩
end Go.Proofs.YtjibbnknliamkaaGreatDoor
