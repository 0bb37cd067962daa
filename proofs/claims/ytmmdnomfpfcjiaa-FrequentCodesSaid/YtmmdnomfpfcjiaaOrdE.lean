/- The order of entries: which comes first; the contracts of cmp.Compare, cmp.Or, strings.Compare, topk.compare and of the reference's Before. -/
import Derived.Test.YtmmdnomfpfcjiaaEnts
import Derived.Test.YtmmdnomfpfcjiaaStepApp
import Derived.Lib.Bytealg
import Derived.Lib.Strings
import Derived.Lib.Walk
namespace Go.Proofs.Ytmmdnomfpfcjiaa
open Go.RowKit
set_option linter.unusedVariables false
set_option linter.unusedSimpArgs false
def lessK (a b : ByteArray) : Bool := Op.bytesLess a.toList b.toList
/-- x comes before y. -/
def bef (x y : Ent) : Bool := decide (y.c < x.c) || (x.c == y.c && lessK x.k y.k)
def cmpI (a b : Int) : Int := if a < b then -1 else if b < a then 1 else 0
def cmpE (x y : Ent) : Int := if cmpI y.c x.c ≠ 0 then cmpI y.c x.c else Lib.compareBytes x.k.data.toList y.k.data.toList
theorem cmpB_bd : ∀ a b : List UInt8, -1 ≤ Lib.compareBytes a b ∧ Lib.compareBytes a b ≤ 1
  | [], [] => by decide
  | [], _ :: _ => by simp [Lib.compareBytes]
  | _ :: _, [] => by simp [Lib.compareBytes]
  | a :: xs, b :: ys => by
    unfold Lib.compareBytes
    have := cmpB_bd xs ys
    split
    · omega
    · split <;> omega
theorem cmpB_less : ∀ a b : List UInt8, decide (Lib.compareBytes a b < 0) = Op.bytesLess a b
  | [], [] => by decide
  | [], _ :: _ => by simp [Lib.compareBytes, Op.bytesLess]
  | _ :: _, [] => by simp [Lib.compareBytes, Op.bytesLess]
  | a :: xs, b :: ys => by
    have ih := cmpB_less xs ys
    unfold Lib.compareBytes Op.bytesLess
    by_cases h : a < b
    · simp [h]
    · by_cases h2 : b < a
      · have hne : (a == b) = false := by
          rw [beq_eq_false_iff_ne]
          rintro rfl
          exact absurd h2 h
        simp [h, h2, hne]
      · have he : a = b := by
          have h3 := UInt8.le_antisymm (UInt8.not_lt.1 h2) (UInt8.not_lt.1 h)
          exact h3
        subst he
        simp only [h, if_false, decide_false, Bool.false_or, beq_self_eq_true, Bool.true_and]
        exact ih
theorem cmpI_bd (a b : Int) : -1 ≤ cmpI a b ∧ cmpI a b ≤ 1 := by
  unfold cmpI
  split
  · omega
  · split <;> omega
theorem cmpE_bd (x y : Ent) : -1 ≤ cmpE x y ∧ cmpE x y ≤ 1 := by
  unfold cmpE
  split
  · exact cmpI_bd _ _
  · exact cmpB_bd _ _
theorem cmpE_bef (x y : Ent) : decide (cmpE x y < 0) = bef x y := by
  unfold cmpE bef lessK cmpI
  rw [Lib.toList_data, Lib.toList_data, ← cmpB_less]
  by_cases h : y.c < x.c
  · simp [h]
  · by_cases h2 : x.c < y.c
    · have : (x.c == y.c) = false := by rw [beq_eq_false_iff_ne]; omega
      simp [h, h2, this]
    · have : x.c = y.c := by omega
      simp [h, h2, this]
theorem cmpE_not (x y : Ent) : decide (0 ≤ cmpE x y) = !bef x y := by
  rw [← cmpE_bef]
  by_cases h : cmpE x y < 0
  · have : ¬ 0 ≤ cmpE x y := by omega
    simp [h, this]
  · have : 0 ≤ cmpE x y := by omega
    simp [h, this]
theorem nan_any (a : Int) (w : World) : Calls Try.prog 97 #[.int .i64 a] w fun e w' => e = .returned (.bool false) ∧ w = w' := by
  go_enter Try.func97, Try.ntmps97
  go_wp2
  go_ret
  exact ⟨by simp, rfl⟩
set_option maxRecDepth 100000 in
theorem cmpstr_any (a b : ByteArray) (w : World) : Calls Try.prog 75 #[.string a, .string b] w fun e w' => e = .returned (.int .i64 (Lib.compareBytes a.data.toList b.data.toList)) ∧ w = w' := by
  have hx := run_callFunc_extern Try.func81 (by kernel_rfl) (by kernel_rfl) (by kernel_rfl) (e := Extern.BytealgCompare.compare) (by kernel_rfl)
  go_enter Try.func75, Try.ntmps75
  go_wp2
  rw [Lib.run_compareString]
  simp only [Result.andThen]
  rw [Oper.upon_value]
  go_wp2
  go_ret
  exact ⟨rfl, rfl⟩
theorem scmp_any (a b : ByteArray) (w : World) : Calls Try.prog 66 #[.string a, .string b] w fun e w' => e = .returned (.int .i64 (Lib.compareBytes a.data.toList b.data.toList)) ∧ w = w' := by
  go_enter Try.func66, Try.ntmps66
  go_wp2_with (go_at_call 75; refine (cmpstr_any _ _ _).mono ?_; rintro e w' ⟨rfl, rfl⟩)
  go_ret
  exact ⟨rfl, rfl⟩
/-- The first of two that is not zero. -/
def or2 (a b : Int) : Int := if a ≠ 0 then a else b
theorem or2_cmp (x y : Ent) : or2 (cmpI y.c x.c) (Lib.compareBytes x.k.data.toList y.k.data.toList) = cmpE x y := rfl
set_option maxRecDepth 100000 in
theorem before_any (x y : Ent) (w : World) : Calls Try.prog 58 #[.agg #[.string x.k, .int .i64 x.c, .int .i64 x.e], .agg #[.string y.k, .int .i64 y.c, .int .i64 y.e]] w fun e w' =>
      e = .returned (.bool (bef x y)) ∧ Below w.heap.size w w' := by
  obtain ⟨k, c, e⟩ := x
  obtain ⟨k', c', e'⟩ := y
  unfold bef lessK
  dsimp only
  by_cases h1 : c' < c
  · have e1 : (decide (c' < c) || c == c' && Op.bytesLess k.toList k'.toList) = true := by simp [h1]
    rw [e1]
    go_enter Try.func58, Try.ntmps58
    go_wp2
    go_ret
    exact ⟨rfl, b2 _ _⟩
  · by_cases h2 : c = c'
    · subst h2
      have e1 : (decide (c < c) || c == c && Op.bytesLess k.toList k'.toList) = Op.bytesLess k.toList k'.toList := by simp
      rw [e1]
      clear h1 e1
      go_enter Try.func58, Try.ntmps58
      go_wp2
      go_ret
      exact ⟨rfl, b2 _ _⟩
    · have e2 : (c == c') = false := by simp [h2]
      have e1 : (decide (c' < c) || c == c' && Op.bytesLess k.toList k'.toList) = false := by simp [h1, h2]
      rw [e1]
      clear h2
      go_enter Try.func58, Try.ntmps58
      go_wp2
      go_ret
      exact ⟨rfl, b2 _ _⟩
end Go.Proofs.Ytmmdnomfpfcjiaa
