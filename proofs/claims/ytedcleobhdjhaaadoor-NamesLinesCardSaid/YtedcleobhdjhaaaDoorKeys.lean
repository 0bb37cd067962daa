/- The contracts of FormatKey and ParseKey of package names and of the reference. -/
import Derived.Test.YtedcleobhdjhaaaDoorRHex
namespace Go.Proofs.YtedcleobhdjhaaaDoor
open Go.RowKit
set_option linter.unusedVariables false
set_option linter.unusedSimpArgs false
theorem keyB_size {s : ByteArray} (h : keyB (byt s) = true) : s.size ≤ 32 := by
  unfold keyB at h
  rw [byt_len] at h
  simp at h
  exact h.2
theorem byt_inj {s t : ByteArray} (h : byt s = byt t) : s = t := by rw [← str_byt s, ← str_byt t, h]
theorem teq {X : List Int} (hx : Byt X) (s : ByteArray) : ((strOfNums X).toList == s.toList) = decide (X = byt s) := by
  rw [Lib.toList_data, Lib.toList_data]
  by_cases h : X = byt s
  · subst h
    rw [str_byt]
    simp
  · have : ¬ (strOfNums X).data.toList = s.data.toList := fun e => h (by
      have e2 : strOfNums X = s := by
        apply ByteArray.ext
        exact Array.toList_inj.1 e
      rw [← e2, byt_str hx])
    simp [h]
    exact fun e => this (by rw [e])
theorem add_mark (L : List Int) (h : L.length ≤ 1000) (w : World) : (Op.stringOp .add ⟨#[37]⟩ (strOfNums L)).run Tryd.prog w = .ok (.string (strOfNums (37 :: L))) w := add_run [37] L (by simp <;> omega) w
set_option maxRecDepth 100000 in
theorem formatKey_any (s : ByteArray) (w : World) (hs : s.size ≤ maxLen) :
    Calls Tryd.prog 17 #[.string s] w fun e w' => e = .returned (.tuple #[.string (strOfNums (formK (byt s)).1), .int .i64 (formK (byt s)).2]) ∧ Below w.heap.size w w' := by
  have hk := fun w => isKey_any s w hs
  have he := fun w => each_any _ _ tells_plain s w hs
  cases hK : keyB (byt s)
  · unfold formK
    rw [hK] at hk ⊢
    clear hK
    go_enter Tryd.func17, Tryd.ntmps17
    go_wp2_with (go_at_call 11; refine (hk _).mono ?_; rintro e w' ⟨rfl, rfl⟩)
    go_ret2
    exact ⟨rfl, Below.refl _ _⟩
  · have hz := keyB_size hK
    cases hP : (byt s).all plaB
    · unfold formK
      rw [hK] at hk ⊢
      rw [hP] at he ⊢
      clear hK hP
      have hh := fun w => toHex_any s w (by omega)
      have ha := add_mark (hexL (byt s)) (by rw [hexL_len, byt_len]; omega)
      simp only [Bool.false_eq_true, Bool.true_eq_false, if_false]
      generalize hexL (byt s) = R at *
      go_enter Tryd.func17, Tryd.ntmps17
      go_wp2_with (first
        | (go_at_call 11; refine (hk _).mono ?_; rintro e w' ⟨rfl, rfl⟩)
        | (go_at_call 31; refine (he _).mono ?_; rintro e w' ⟨rfl, rfl⟩)
        | (go_at_call 35; refine (hh _).mono ?_; rintro e w' ⟨rfl, hb⟩))
      go_ret2
      exact ⟨rfl, hb⟩
    · unfold formK
      rw [hK] at hk ⊢
      rw [hP] at he ⊢
      clear hK hP
      simp only [Bool.true_eq_false, if_false, if_true, str_byt]
      go_enter Tryd.func17, Tryd.ntmps17
      go_wp2_with (first
        | (go_at_call 11; refine (hk _).mono ?_; rintro e w' ⟨rfl, rfl⟩)
        | (go_at_call 31; refine (he _).mono ?_; rintro e w' ⟨rfl, rfl⟩))
      go_ret2
      exact ⟨rfl, Below.refl _ _⟩
set_option maxRecDepth 100000 in
set_option maxHeartbeats 1000000 in
theorem rplain_any (s : ByteArray) (w : World) (hs : s.size ≤ maxLen) :
    Calls Tryd.prog 36 #[.string s] w fun e w' => e = .returned (.bool ((byt s).all plaB)) ∧ w = w' := by
  unfold maxLen at hs
  have HL := Lib.hid (byt_len s)
  go_enter Tryd.func36, Tryd.ntmps36
  go_wp2
  go_loop [3] (fun i => ∃ k : Nat, k ≤ s.size ∧ i = .int .i64 k ∧ Hid (((byt s).take k).all plaB = true)) (fun i => s.size - (intOf i).toNat)
  case atStart => exact ⟨0, by omega, rfl, rfl⟩
  case round =>
    obtain ⟨k, hk, rfl, HA⟩ := hrel
    by_cases hlt : k < s.size
    · have hn := all_take (p := plaB) (by rw [HL.out]; exact hlt) HA.out
      have hno := all_no (L := byt s) (p := plaB) (k := k) (by rw [HL.out]; exact hlt)
      rw [byt_at hlt] at hn hno
      have HN := Lib.hid hn
      have HNO := Lib.hid hno
      clear hn hno
      go_wp2_with (go_at_call 33; refine (between_any _ _ _ _).mono ?_; rintro e w' ⟨rfl, rfl⟩)
      all_goals first
        | (go_ret
           exact ⟨ret_bool (HNO.out (by unfold plaB namB uppB lowB digB; simp_all)).symm, rfl⟩)
        | (go_round
           case rel => exact ⟨k + 1, by omega, by go_num, (HN.out).trans (by unfold plaB namB uppB lowB digB; simp_all)⟩
           case measure => simp [intOf]; omega)
    · obtain rfl : k = s.size := by omega
      have ha := HA.out
      have hl' := HL.out
      rw [← hl', List.take_length] at ha
      have HA' := Lib.hid ha
      clear ha hl'
      go_wp2
      go_ret
      exact ⟨ret_bool HA'.out.symm, rfl⟩
set_option maxRecDepth 100000 in
theorem rformatKey_any (s : ByteArray) (w : World) (hs : s.size ≤ maxLen) :
    Calls Tryd.prog 18 #[.string s] w fun e w' => e = .returned (.tuple #[.string (strOfNums (formK (byt s)).1), .int .i64 (formK (byt s)).2]) ∧ Below w.heap.size w w' := by
  have hk := fun w => risKey_any s w hs
  have he := fun w => rplain_any s w hs
  cases hK : keyB (byt s)
  · unfold formK
    rw [hK] at hk ⊢
    clear hK
    go_enter Tryd.func18, Tryd.ntmps18
    go_wp2_with (go_at_call 12; refine (hk _).mono ?_; rintro e w' ⟨rfl, rfl⟩)
    go_ret2
    exact ⟨rfl, Below.refl _ _⟩
  · have hz := keyB_size hK
    cases hP : (byt s).all plaB
    · unfold formK
      rw [hK] at hk ⊢
      rw [hP] at he ⊢
      clear hK hP
      have hh := fun w => rhex_any s w (by omega)
      have ha := add_mark (hexL (byt s)) (by rw [hexL_len, byt_len]; omega)
      simp only [Bool.false_eq_true, Bool.true_eq_false, if_false]
      generalize hexL (byt s) = R at *
      go_enter Tryd.func18, Tryd.ntmps18
      go_wp2_with (first
        | (go_at_call 12; refine (hk _).mono ?_; rintro e w' ⟨rfl, rfl⟩)
        | (go_at_call 36; refine (he _).mono ?_; rintro e w' ⟨rfl, rfl⟩)
        | (go_at_call 37; refine (hh _).mono ?_; rintro e w' ⟨rfl, hb⟩))
      go_ret2
      exact ⟨rfl, hb⟩
    · unfold formK
      rw [hK] at hk ⊢
      rw [hP] at he ⊢
      clear hK hP
      simp only [Bool.true_eq_false, if_false, if_true, str_byt]
      go_enter Tryd.func18, Tryd.ntmps18
      go_wp2_with (first
        | (go_at_call 12; refine (hk _).mono ?_; rintro e w' ⟨rfl, rfl⟩)
        | (go_at_call 36; refine (he _).mono ?_; rintro e w' ⟨rfl, rfl⟩))
      go_ret2
      exact ⟨rfl, Below.refl _ _⟩
/-- A string that opens with one byte, or doesn't. -/
theorem mk_str (l : List UInt8) : (⟨l.toArray⟩ : ByteArray) = strOfNums (l.map fun b => (b.toNat : Int)) := by
  rw [← str_byt ⟨l.toArray⟩]
  simp [byt]
theorem cut_yes (s : ByteArray) (c : UInt8) (D : List Int) (h : byt s = (c.toNat : Int) :: D) (w : World) :
    Calls Tryd.prog 38 #[.string s, .string ⟨#[c]⟩] w fun e w' => e = .returned (.tuple #[.string (strOfNums D), .bool true]) ∧ w = w' := by
  refine (Tryd.strings_CutPrefix s ⟨#[c]⟩ w).mono ?_
  rintro e w' ⟨rfl, rfl⟩
  unfold byt at h
  cases hl : s.data.toList with
  | nil => rw [hl] at h; simp at h
  | cons b l =>
    rw [hl] at h
    simp only [List.map_cons, List.cons.injEq] at h
    obtain ⟨h1, rfl⟩ := h
    have hb : b = c := UInt8.toNat_inj.1 (by omega)
    subst hb
    have e1 : Lib.hasPrefix (b :: l) [b] = true := by simp [Lib.hasPrefix]
    rw [show (⟨#[b]⟩ : ByteArray).data.toList = [b] from rfl, Lib.trimPrefix, e1, if_pos rfl]
    simp only [List.length_cons, List.length_nil, List.drop_succ_cons, List.drop_zero]
    exact ⟨by rw [mk_str], trivial⟩
theorem cut_no (s : ByteArray) (c : UInt8) (h : ∀ D, byt s ≠ (c.toNat : Int) :: D) (w : World) :
    Calls Tryd.prog 38 #[.string s, .string ⟨#[c]⟩] w fun e w' => e = .returned (.tuple #[.string s, .bool false]) ∧ w = w' := by
  refine (Tryd.strings_CutPrefix s ⟨#[c]⟩ w).mono ?_
  rintro e w' ⟨rfl, rfl⟩
  have e1 : Lib.hasPrefix s.data.toList [c] = false := by
    cases hl : s.data.toList with
    | nil => rfl
    | cons b l =>
      have hb : ¬ c = b := by
        rintro rfl
        exact h _ (by unfold byt; rw [hl, List.map_cons])
      show [c].isPrefixOf (b :: l) = false
      simp [List.isPrefixOf, hb]
  rw [show (⟨#[c]⟩ : ByteArray).data.toList = [c] from rfl, Lib.trimPrefix, e1]
  simp
end Go.Proofs.YtedcleobhdjhaaaDoor
