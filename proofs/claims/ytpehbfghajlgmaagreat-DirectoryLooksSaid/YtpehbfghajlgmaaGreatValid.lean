/- The contracts of IsName, IsKey and ValidateItem of package names and of the reference. -/
import Derived.Test.YtpehbfghajlgmaaGreatChars
import Derived.Test.YtpehbfghajlgmaaGreatItem
namespace Go.Proofs.YtpehbfghajlgmaaGreat
open Go.RowKit
set_option linter.unusedVariables false
set_option linter.unusedSimpArgs false
def nameB (L : List Int) : Bool := decide (1 ≤ L.length) && decide (L.length ≤ 16) && lowB (L.getD 0 0) && L.all namB
theorem isName_any (s : ByteArray) (w : World) (hs : s.size ≤ maxLen) :
    Calls Tryz.prog 23 #[.string s] w fun e w' => e = .returned (.bool (nameB (byt s))) ∧ w = w' := by
  have he := fun w => each_any _ _ tells_name s w hs
  unfold maxLen at hs
  unfold nameB
  rw [byt_len]
  generalize (byt s).all namB = A at *
  by_cases h0 : 0 < s.size
  · have hb := byt_at h0
    rw [hb]
    have hg : (1 : Nat) ≤ s.size := h0
    have hse := str_ne h0
    cases hl : lowB (s[0].toNat : Int)
    all_goals
      go_enter Tryz.func23, Tryz.ntmps23
      go_wp2_with (first
        | (go_at_call 45; refine (lower_any _ _).mono ?_; rintro e w' ⟨rfl, rfl⟩)
        | (go_at_call 46; refine (he _).mono ?_; rintro e w' ⟨rfl, rfl⟩))
      all_goals
        go_ret
        exact ⟨ret_bool (by simp [*] <;> omega), rfl⟩
  · obtain rfl := size_zero s (by omega)
    go_enter Tryz.func23, Tryz.ntmps23
    go_wp2
    all_goals
      go_ret
      exact ⟨ret_bool (by simp [*] <;> omega), rfl⟩
theorem risName_any (s : ByteArray) (w : World) (hs : s.size ≤ maxLen) :
    Calls Tryz.prog 30 #[.string s] w fun e w' => e = .returned (.bool (nameB (byt s))) ∧ w = w' := by
  unfold maxLen at hs
  unfold nameB
  by_cases h0 : 0 < s.size
  · have hb := byt_at h0
    rw [byt_len, hb]
    have hg : (1 : Nat) ≤ s.size := h0
    by_cases hm : s.size ≤ 16
    · cases hl : lowB (s[0].toNat : Int)
      · go_enter Tryz.func30, Tryz.ntmps30
        have hl' : inB (s[0].toNat : Int) 97 122 = false := hl
        go_wp2_with (go_at_call 59; refine (between_any _ _ _ _).mono ?_; rintro e w' ⟨rfl, rfl⟩)
        go_ret
        exact ⟨ret_bool (by simp), rfl⟩
      · have hl' : inB (s[0].toNat : Int) 97 122 = true := hl
        have HL := Lib.hid (byt_len s)
        have e : (decide (1 ≤ s.size) && decide (s.size ≤ 16) && true && (byt s).all namB) = (byt s).all namB := by simp [hg, hm]
        rw [e]
        clear hb e hl
        go_enter Tryz.func30, Tryz.ntmps30
        go_wp2_with (go_at_call 59; refine (between_any _ _ _ _).mono ?_; rintro e w' ⟨rfl, rfl⟩)
        clear hl'
        go_loop [3] (fun i => ∃ k : Nat, k ≤ s.size ∧ i = .int .i64 k ∧ Hid (((byt s).take k).all namB = true)) (fun i => s.size - (intOf i).toNat)
        case atStart => exact ⟨0, by omega, rfl, rfl⟩
        case round =>
          obtain ⟨k, hk, rfl, HA⟩ := hrel
          by_cases hlt : k < s.size
          · have hn := all_take (p := namB) (by rw [HL.out]; exact hlt) HA.out
            have hno := all_no (L := byt s) (p := namB) (k := k) (by rw [HL.out]; exact hlt)
            rw [byt_at hlt] at hn hno
            have HN := Lib.hid hn
            have HNO := Lib.hid hno
            clear hn hno
            go_wp2_with (go_at_call 59; refine (between_any _ _ _ _).mono ?_; rintro e w' ⟨rfl, rfl⟩)
            all_goals first
              | (go_ret
                 exact ⟨ret_bool (HNO.out (by unfold namB lowB digB; simp_all)).symm, rfl⟩)
              | (go_round
                 case rel => exact ⟨k + 1, by omega, by go_num, (HN.out).trans (by unfold namB lowB digB; simp_all)⟩
                 case measure => simp [intOf]; omega)
          · obtain rfl : k = s.size := by omega
            have ha := HA.out
            have hl' := HL.out
            rw [← hl', List.take_length] at ha
            have HA' := Lib.hid ha
            clear ha hl'
            go_wp2
            go_ret
            exact ⟨ret_bool HA'.out.symm, rfl⟩
    · go_enter Tryz.func30, Tryz.ntmps30
      go_wp2
      go_ret
      exact ⟨ret_bool (by simp [hm]), rfl⟩
  · obtain rfl := size_zero s (by omega)
    go_enter Tryz.func30, Tryz.ntmps30
    go_wp2
    all_goals
      go_ret
      exact ⟨rfl, rfl⟩
end Go.Proofs.YtpehbfghajlgmaaGreat
