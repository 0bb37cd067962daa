/- The contracts of the functions of package names on single bytes, of names.eachByte, and of the reference's between. -/
import Derived.Test.YtpehbfghajlgmaaGreatWords
import Derived.Test.YtpehbfghajlgmaaGreatShelf
namespace Go.Proofs.YtpehbfghajlgmaaGreat
open Go.RowKit
set_option linter.unusedVariables false
set_option linter.unusedSimpArgs false
def inB (c l h : Int) : Bool := decide (l ≤ c) && decide (c ≤ h)
def lowB (c : Int) : Bool := inB c 97 122
def uppB (c : Int) : Bool := inB c 65 90
def digB (c : Int) : Bool := inB c 48 57
def namB (c : Int) : Bool := lowB c || digB c || c == 45 || c == 46
def plaB (c : Int) : Bool := namB c || uppB c || c == 95 || c == 58 || c == 47
def texB (c : Int) : Bool := c == 10 || inB c 32 126
theorem inB_yes {c l h : Int} (a : l ≤ c) (b : c ≤ h) : inB c l h = true := by simp [inB, a, b]
theorem inB_lo {c l h : Int} (a : c < l) : inB c l h = false := by
  have : ¬ l ≤ c := by omega
  simp [inB, this]
theorem inB_hi {c l h : Int} (a : h < c) : inB c l h = false := by
  have : ¬ c ≤ h := by omega
  simp [inB, this]
theorem lower_any (c : Int) (w : World) : Calls Tryz.prog 45 #[.int .u8 c] w fun e w' => e = .returned (.bool (lowB c)) ∧ w = w' := by
  go_enter Tryz.func45, Tryz.ntmps45
  go_wp2
  all_goals
    go_ret
    exact ⟨ret_bool (by unfold lowB inB; simp [*] <;> omega), rfl⟩
theorem digit_any (c : Int) (w : World) : Calls Tryz.prog 66 #[.int .u8 c] w fun e w' => e = .returned (.bool (digB c)) ∧ w = w' := by
  go_enter Tryz.func66, Tryz.ntmps66
  go_wp2
  all_goals
    go_ret
    exact ⟨ret_bool (by unfold digB inB; simp [*] <;> omega), rfl⟩
theorem between_any (c l h : Int) (w : World) : Calls Tryz.prog 59 #[.int .u8 c, .int .u8 l, .int .u8 h] w fun e w' => e = .returned (.bool (inB c l h)) ∧ w = w' := by
  go_enter Tryz.func59, Tryz.ntmps59
  go_wp2
  all_goals
    go_ret
    exact ⟨ret_bool (by unfold inB; simp [*] <;> omega), rfl⟩
theorem nameb_any (c : Int) (w : World) : Calls Tryz.prog 47 #[.int .u8 c] w fun e w' => e = .returned (.bool (namB c)) ∧ w = w' := by
  go_enter Tryz.func47, Tryz.ntmps47
  go_wp2_with (first
    | (go_at_call 45; refine (lower_any _ _).mono ?_; rintro e w' ⟨rfl, rfl⟩)
    | (go_at_call 66; refine (digit_any _ _).mono ?_; rintro e w' ⟨rfl, rfl⟩))
  all_goals
    go_ret
    exact ⟨ret_bool (by unfold namB; simp [*]), rfl⟩
/-- A function of one byte that answers what p says. -/
def Tells (f : FuncId) (p : Int → Bool) : Prop := (∀ args w, (callFunc f args).run Tryz.prog w = .ok (.enter f args) w) ∧ ∀ (c : Int) (w : World), Calls Tryz.prog f #[.int .u8 c] w fun e w' => e = .returned (.bool (p c)) ∧ w = w'
theorem byt_at {s : ByteArray} {k : Nat} (h : k < s.size) : (byt s).getD k 0 = (s[k].toNat : Int) := by
  have : k < s.data.toList.length := by rw [Array.length_toList]; exact h
  simp [byt, List.getD, List.getElem?_map, List.getElem?_eq_getElem this]
  rfl
theorem all_take {L : List Int} {p : Int → Bool} {k : Nat} (h : k < L.length) (ha : (L.take k).all p = true) : (L.take (k + 1)).all p = p (L.getD k 0) := by
  rw [take_snoc L k h, List.all_append, ha]
  simp
theorem all_no {L : List Int} {p : Int → Bool} {k : Nat} (h : k < L.length) (hp : p (L.getD k 0) = false) : L.all p = false := by
  rw [List.all_eq_false]
  refine ⟨L[k], List.getElem_mem h, ?_⟩
  have : L.getD k 0 = L[k] := by simp [List.getD, h]
  rw [← this, hp]
  simp
theorem each_any (f : FuncId) (p : Int → Bool) (hf : Tells f p) (s : ByteArray) (w : World) (hs : s.size ≤ maxLen) :
    Calls Tryz.prog 46 #[.string s, .func (.func f) #[] #[]] w fun e w' => e = .returned (.bool ((byt s).all p)) ∧ w = w' := by
  unfold maxLen at hs
  have hl := byt_len s
  obtain ⟨he, hf⟩ := hf
  have HF := Lib.hid hf
  have HL := Lib.hid hl
  clear hf hl
  go_enter Tryz.func46, Tryz.ntmps46
  go_wp2
  go_loop [8] (fun i => ∃ k : Nat, k ≤ s.size ∧ i = .int .i64 k ∧ ((byt s).take k).all p = true) (fun i => s.size - (intOf i).toNat)
  case atStart => exact ⟨0, by omega, rfl, rfl⟩
  case round =>
    obtain ⟨k, hk, rfl, ha⟩ := hrel
    by_cases hlt : k < s.size
    · have hb := byt_at hlt
      have hn := all_take (p := p) (by rw [HL.out]; exact hlt) ha
      have hno := all_no (L := byt s) (p := p) (k := k) (by rw [HL.out]; exact hlt)
      rw [hb] at hn hno
      have HA := Lib.hid ha
      have HN := Lib.hid hn
      have HNO := Lib.hid hno
      have HP := Lib.hid (HF.out (s[k].toNat : Int))
      clear hb hn ha hno
      cases hp : p (s[k].toNat : Int)
      all_goals
        have HH := Lib.hid hp
        go_wp2_with (refine (HP.out _).mono ?_; rintro e w' ⟨rfl, rfl⟩)
      · go_ret
        exact ⟨ret_bool (HNO.out HH.out).symm, rfl⟩
      · go_round
        case rel => exact ⟨k + 1, by omega, by go_num, by rw [HN.out]; exact HH.out⟩
        case measure => simp [intOf]; omega
    · obtain rfl : k = s.size := by omega
      have hl' := HL.out
      rw [← hl', List.take_length] at ha
      have HA := Lib.hid ha
      clear ha
      go_wp2
      go_ret
      exact ⟨ret_bool HA.out.symm, rfl⟩
theorem tells_name : Tells 47 namB := ⟨enters_of Tryz.func47 (by kernel_rfl) rfl, nameb_any⟩
end Go.Proofs.YtpehbfghajlgmaaGreat
