/- The contracts of ParseInt and FormatInt of package names and of the reference. -/
import Derived.Test.YtedcleobhdjhaaaDoorIntNums
namespace Go.Proofs.YtedcleobhdjhaaaDoor
open Go.RowKit
set_option linter.unusedVariables false
set_option linter.unusedSimpArgs false
theorem digV_at {L : List Int} {k : Nat} (h : k < L.length) : digV (L.take (k + 1)) = 10 * digV (L.take k) + (L.getD k 0 - 48) := by
  rw [take_snoc L k h, digV_snoc]
theorem digV_lt {L : List Int} {k : Nat} (hk : k ≤ 12) (h : (L.take k).all digB = true) : 0 ≤ digV (L.take k) ∧ digV (L.take k) < 1000000000000 := by
  have h1 := digV_bd (L.take k) h
  have h2 : 10 ^ (L.take k).length ≤ 10 ^ 12 := Nat.pow_le_pow_right (by decide) (by rw [List.length_take]; omega)
  have h3 : (10 : Nat) ^ 12 = 1000000000000 := by decide
  omega
def PdPost (x : Int × Bool) (w : World) (e : Ending) (w' : World) : Prop := e = .returned (.tuple #[.int .i64 x.1, .bool x.2]) ∧ w = w'
theorem okD_no {s : ByteArray} (h : ¬ (1 ≤ s.size ∧ s.size ≤ 12 ∧ ¬ ((byt s).getD 0 0 = 48 ∧ 1 < s.size))) : okD (byt s) = false := by
  unfold okD
  rw [byt_len]
  by_cases h1 : 1 ≤ s.size
  · by_cases h2 : s.size ≤ 12
    · by_cases h3 : (byt s).getD 0 0 = 48 ∧ 1 < s.size
      · rw [h3.1]; simp [h3.2]
      · exact absurd ⟨h1, h2, h3⟩ h
    · simp [h2]
  · simp [h1]
theorem okD_yes {s : ByteArray} (h1 : 1 ≤ s.size) (h2 : s.size ≤ 12) (h3 : ¬ ((byt s).getD 0 0 = 48 ∧ 1 < s.size)) : okD (byt s) = (byt s).all digB := by
  unfold okD
  rw [byt_len]
  have : ((byt s).getD 0 0 == 48 && decide (1 < s.size)) = false := by
    by_cases a : (byt s).getD 0 0 = 48
    · have : ¬ 1 < s.size := fun b => h3 ⟨a, b⟩
      simp [this]
    · rw [beq_eq_false_iff_ne.2 a]; rfl
  rw [this]
  simp [h1, h2]
set_option maxRecDepth 100000 in
set_option maxHeartbeats 1000000 in
theorem pd_any (s : ByteArray) (w : World) (hs : s.size ≤ maxLen) :
    Calls Tryd.prog 44 #[.string s] w (PdPost (pdV (byt s)) w) := by
  unfold maxLen at hs
  by_cases h0 : 0 < s.size
  · have hb := byt_at h0
    have g0 : (0 : Int) < (s.size : Int) := by omega
    have hse := str_ne h0
    have hz2 : ¬ s = ByteArray.empty := by rintro rfl; simp at h0
    have hz3 : ¬ s.toList = [] := by intro h; rw [h] at hse; simp at hse
    by_cases hm : s.size ≤ 12
    · have HOKN := okD_no (s := s)
      have HOKY := okD_yes (s := s) h0 hm
      rw [hb] at HOKN HOKY
      by_cases hz : (s[0].toNat : Int) = 48 ∧ 1 < s.size
      · have hn : pdV (byt s) = (0, false) := by unfold pdV; rw [HOKN (fun h => h.2.2 hz)]; rfl
        rw [hn]
        clear hn HOKN HOKY hb
        obtain ⟨hz, hg⟩ := hz
        go_enter Tryd.func44, Tryd.ntmps44
        go_wp2
        go_ret2
        exact ⟨rfl, rfl⟩
      · have hok := HOKY hz
        have HOK := Lib.hid hok
        have HL := Lib.hid (byt_len s)
        have HBY := Lib.hid (byt_byt s)
        clear HOKN HOKY hb hok
        obtain ⟨R, HR⟩ : ∃ R, Hid (pdV (byt s) = R) := ⟨_, rfl⟩
        rw [HR.out]
        have hzz : (s[0].toNat : Int) = 48 → ¬ 1 < s.size := fun a b => hz ⟨a, b⟩
        clear hz
        by_cases h48 : (s[0].toNat : Int) = 48
        · have h1' : ¬ (1 : Int) < (s.size : Int) := by have := hzz h48; omega
          clear hzz
          go_enter Tryd.func44, Tryd.ntmps44
          go_wp2
          go_loop [2, 24] (fun n i => ∃ k : Nat, k ≤ s.size ∧ i = .int .i64 k ∧ n = .int .i64 (digV ((byt s).take k)) ∧ Hid (((byt s).take k).all digB = true)) (fun _ i => s.size - (intOf i).toNat)
          case atStart => exact ⟨0, by omega, rfl, rfl, rfl⟩
          case round =>
            obtain ⟨k, hk, rfl, rfl, HA⟩ := hrel
            by_cases hlt : k < s.size
            · have hv := digV_lt (L := byt s) (k := k) (by omega) HA.out
              have hn := all_take (p := digB) (by rw [HL.out]; exact hlt) HA.out
              have hno := all_no (L := byt s) (p := digB) (k := k) (by rw [HL.out]; exact hlt)
              have hd := digV_at (L := byt s) (k := k) (by rw [HL.out]; exact hlt)
              rw [byt_at hlt] at hn hno hd
              have HN := Lib.hid hn
              have HNO := Lib.hid hno
              have HD := Lib.hid hd
              clear hn hno hd
              cases hp : digB (s[k].toNat : Int)
              · have hr := HR.out
                unfold pdV at hr
                rw [HOK.out, HNO.out hp, if_neg (by simp)] at hr
                subst hr
                go_wp2_with (go_at_call 46; refine (digit_any _ _).mono ?_; rintro e w' ⟨rfl, rfl⟩)
                go_ret2
                exact ⟨rfl, rfl⟩
              · have hc := digB_bd hp
                obtain ⟨c1, c2⟩ := hc
                have HP := Lib.hid hp
                go_wp2_with (go_at_call 46; refine (digit_any _ _).mono ?_; rintro e w' ⟨rfl, rfl⟩)
                go_round
                case rel => exact ⟨k + 1, by omega, by go_num, by rw [HD.out], by rw [HN.out]; exact HP.out⟩
                case measure => simp [intOf]; omega
            · obtain rfl : k = s.size := by omega
              have hr := HR.out
              have ha := HA.out
              have hl' := HL.out
              rw [← hl', List.take_length] at ha
              unfold pdV at hr
              rw [HOK.out, ha, if_pos rfl] at hr
              subst hr
              have e : (byt s).take s.size = byt s := by rw [← HL.out, List.take_length]
              have HE := Lib.hid e
              clear ha e hl'
              go_wp2
              go_ret2
              exact ⟨by rw [HE.out]; rfl, rfl⟩
        · clear hzz
          go_enter Tryd.func44, Tryd.ntmps44
          go_wp2
          go_loop [2, 24] (fun n i => ∃ k : Nat, k ≤ s.size ∧ i = .int .i64 k ∧ n = .int .i64 (digV ((byt s).take k)) ∧ Hid (((byt s).take k).all digB = true)) (fun _ i => s.size - (intOf i).toNat)
          case atStart => exact ⟨0, by omega, rfl, rfl, rfl⟩
          case round =>
            obtain ⟨k, hk, rfl, rfl, HA⟩ := hrel
            by_cases hlt : k < s.size
            · have hv := digV_lt (L := byt s) (k := k) (by omega) HA.out
              have hn := all_take (p := digB) (by rw [HL.out]; exact hlt) HA.out
              have hno := all_no (L := byt s) (p := digB) (k := k) (by rw [HL.out]; exact hlt)
              have hd := digV_at (L := byt s) (k := k) (by rw [HL.out]; exact hlt)
              rw [byt_at hlt] at hn hno hd
              have HN := Lib.hid hn
              have HNO := Lib.hid hno
              have HD := Lib.hid hd
              clear hn hno hd
              cases hp : digB (s[k].toNat : Int)
              · have hr := HR.out
                unfold pdV at hr
                rw [HOK.out, HNO.out hp, if_neg (by simp)] at hr
                subst hr
                go_wp2_with (go_at_call 46; refine (digit_any _ _).mono ?_; rintro e w' ⟨rfl, rfl⟩)
                go_ret2
                exact ⟨rfl, rfl⟩
              · have hc := digB_bd hp
                obtain ⟨c1, c2⟩ := hc
                have HP := Lib.hid hp
                go_wp2_with (go_at_call 46; refine (digit_any _ _).mono ?_; rintro e w' ⟨rfl, rfl⟩)
                go_round
                case rel => exact ⟨k + 1, by omega, by go_num, by rw [HD.out], by rw [HN.out]; exact HP.out⟩
                case measure => simp [intOf]; omega
            · obtain rfl : k = s.size := by omega
              have hr := HR.out
              have ha := HA.out
              have hl' := HL.out
              rw [← hl', List.take_length] at ha
              unfold pdV at hr
              rw [HOK.out, ha, if_pos rfl] at hr
              subst hr
              have e : (byt s).take s.size = byt s := by rw [← HL.out, List.take_length]
              have HE := Lib.hid e
              clear ha e hl'
              go_wp2
              go_ret2
              exact ⟨by rw [HE.out]; rfl, rfl⟩
    · have hn : pdV (byt s) = (0, false) := by unfold pdV; rw [okD_no (fun h => hm h.2.1)]; rfl
      rw [hn]
      clear hn hb
      go_enter Tryd.func44, Tryd.ntmps44
      go_wp2
      go_ret2
      exact ⟨rfl, rfl⟩
  · obtain rfl := size_zero s (by omega)
    have hn : pdV (byt ByteArray.empty) = (0, false) := by decide +kernel
    rw [hn]
    go_enter Tryd.func44, Tryd.ntmps44
    go_wp2
    go_ret2
    exact ⟨rfl, rfl⟩
end Go.Proofs.YtedcleobhdjhaaaDoor
