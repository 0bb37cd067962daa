/- cmp.Compare, cmp.Or, strings.Compare; the orders of bindings. -/
import Derived.Test.YtpehbfghajlgmaaGreatBgQ
import Derived.Lib.Bytealg
import Derived.Lib.Strings
import Derived.Lib.Walk
import Derived.Sort.Grow
namespace Go.Proofs.YtpehbfghajlgmaaGreat
open Go.RowKit
set_option linter.unusedVariables false
set_option linter.unusedSimpArgs false
def cmpI (a b : Int) : Int := if a < b then -1 else if b < a then 1 else 0
theorem cmpB_bd : ∀ a b : List UInt8, -1 ≤ Lib.compareBytes a b ∧ Lib.compareBytes a b ≤ 1
  | [], [] => by decide
  | [], _ :: _ => by simp [Lib.compareBytes]
  | _ :: _, [] => by simp [Lib.compareBytes]
  | a :: xs, b :: ys => by
    unfold Lib.compareBytes
    have := cmpB_bd xs ys
    split
    · omega
    · split <;> omega
theorem cmpB_less : ∀ a b : List UInt8, decide (Lib.compareBytes a b < 0) = Op.bytesLess a b
  | [], [] => by decide
  | [], _ :: _ => by simp [Lib.compareBytes, Op.bytesLess]
  | _ :: _, [] => by simp [Lib.compareBytes, Op.bytesLess]
  | a :: xs, b :: ys => by
    have ih := cmpB_less xs ys
    unfold Lib.compareBytes Op.bytesLess
    by_cases h : a < b
    · simp [h]
    · by_cases h2 : b < a
      · have hne : (a == b) = false := by
          rw [beq_eq_false_iff_ne]
          rintro rfl
          exact absurd h2 h
        simp [h, h2, hne]
      · have he : a = b := by
          have h3 := UInt8.le_antisymm (UInt8.not_lt.1 h2) (UInt8.not_lt.1 h)
          exact h3
        subst he
        simp only [h, if_false, decide_false, Bool.false_or, beq_self_eq_true, Bool.true_and]
        exact ih
theorem cmpI_bd (a b : Int) : -1 ≤ cmpI a b ∧ cmpI a b ≤ 1 := by
  unfold cmpI
  split
  · omega
  · split <;> omega
theorem nan_any (a : Int) (w : World) : Calls Tryz.prog 68 #[.int .i64 a] w fun e w' => e = .returned (.bool false) ∧ w = w' := by
  go_enter Tryz.func68, Tryz.ntmps68
  go_wp2
  go_ret
  exact ⟨by simp, rfl⟩
theorem cmpi_any (a b : Int) (w : World) : Calls Tryz.prog 57 #[.int .i64 a, .int .i64 b] w fun e w' => e = .returned (.int .i64 (cmpI a b)) ∧ w = w' := by
  unfold cmpI
  go_enter Tryz.func57, Tryz.ntmps57
  go_wp2_with (go_at_call 68; refine (nan_any _ _).mono ?_; rintro e w' ⟨rfl, rfl⟩)
  all_goals
    go_ret
    exact ⟨ret_int (by simp [*] <;> omega), rfl⟩
set_option maxRecDepth 100000 in
theorem cmpstr_any (a b : ByteArray) (w : World) : Calls Tryz.prog 67 #[.string a, .string b] w fun e w' => e = .returned (.int .i64 (Lib.compareBytes a.data.toList b.data.toList)) ∧ w = w' := by
  have hx := run_callFunc_extern Tryz.func84 (by kernel_rfl) (by kernel_rfl) (by kernel_rfl) (e := Extern.BytealgCompare.compare) (by kernel_rfl)
  go_enter Tryz.func67, Tryz.ntmps67
  go_wp2
  rw [Lib.run_compareString]
  simp only [Result.andThen]
  rw [Oper.upon_value]
  go_wp2
  go_ret
  exact ⟨rfl, rfl⟩
theorem scmp_any (a b : ByteArray) (w : World) : Calls Tryz.prog 56 #[.string a, .string b] w fun e w' => e = .returned (.int .i64 (Lib.compareBytes a.data.toList b.data.toList)) ∧ w = w' := by
  go_enter Tryz.func56, Tryz.ntmps56
  go_wp2_with (go_at_call 67; refine (cmpstr_any _ _ _).mono ?_; rintro e w' ⟨rfl, rfl⟩)
  go_ret
  exact ⟨rfl, rfl⟩
/-- The first of two that is not zero. -/
def or2 (a b : Int) : Int := if a ≠ 0 then a else b
set_option maxRecDepth 100000 in
theorem or_any (a b : Int) (g : Nat) (w : World) (h0 : w.cell? ⟨g, 0, none⟩ = some (.int .i64 a)) (h1 : w.cell? ⟨g, 1, none⟩ = some (.int .i64 b)) :
    Calls Tryz.prog 55 #[.slice (some ⟨g, 0, none⟩) 2 2] w fun e w' => e = .returned (.int .i64 (or2 a b)) ∧ w = w' := by
  unfold or2
  by_cases ha : a = 0
  · subst ha
    rw [if_neg (by decide)]
    by_cases hb : b = 0
    · subst hb
      go_enter Tryz.func55, Tryz.ntmps55
      go_wp2
      go_loop [5, 8] (fun _ i => i = .int .i64 0 ∨ i = .int .i64 1 ∨ i = .int .i64 2) (fun _ i => 2 - (intOf i).toNat)
      case atStart => exact .inl rfl
      case round =>
        rcases hrel with rfl | rfl | rfl
        · go_wp2
          go_round
          case rel => exact .inr (.inl rfl)
          case measure => simp [intOf]
        · go_wp2
          go_round
          case rel => exact .inr (.inr rfl)
          case measure => simp [intOf]
        · go_wp2
          go_ret
          exact ⟨rfl, rfl⟩
    · have hb2 : (b != 0) = true := by simp [hb]
      clear hb
      go_enter Tryz.func55, Tryz.ntmps55
      go_wp2
      go_loop [5, 8] (fun _ i => i = .int .i64 0 ∨ i = .int .i64 1) (fun _ i => 2 - (intOf i).toNat)
      case atStart => exact .inl rfl
      case round =>
        rcases hrel with rfl | rfl
        · go_wp2
          go_round
          case rel => exact .inr rfl
          case measure => simp [intOf]
        · go_wp2
          go_ret
          exact ⟨rfl, rfl⟩
  · rw [if_pos ha]
    have ha2 : (a != 0) = true := by simp [ha]
    clear ha
    go_enter Tryz.func55, Tryz.ntmps55
    go_wp2
    go_loop [5, 8] (fun _ i => i = .int .i64 0) (fun _ i => 2 - (intOf i).toNat)
    case atStart => rfl
    case round =>
      obtain rfl := hrel
      go_wp2
      go_ret
      exact ⟨rfl, rfl⟩
theorem cmpB_eq : ∀ a b : List UInt8, Lib.compareBytes a b = 0 ↔ a = b
  | [], [] => by simp [Lib.compareBytes]
  | [], _ :: _ => by simp [Lib.compareBytes]
  | _ :: _, [] => by simp [Lib.compareBytes]
  | a :: xs, b :: ys => by
    unfold Lib.compareBytes
    have := cmpB_eq xs ys
    by_cases h : a < b
    · simp only [h, if_true]
      constructor
      · intro h'; cases h'
      · intro h'
        simp only [List.cons.injEq] at h'
        rw [h'.1] at h
        exact absurd h (UInt8.lt_irrefl _)
    · by_cases h2 : b < a
      · simp only [h, h2, if_true, if_false]
        constructor
        · intro h'; cases h'
        · intro h'
          simp only [List.cons.injEq] at h'
          rw [h'.1] at h2
          exact absurd h2 (UInt8.lt_irrefl _)
      · have he : a = b := UInt8.le_antisymm (UInt8.not_lt.1 h2) (UInt8.not_lt.1 h)
        subst he
        simp only [h, if_false, this, List.cons.injEq, true_and]
/-- The order of insert. -/
def cmpN (x y : Bg) : Int := or2 (Lib.compareBytes x.n.data.toList y.n.data.toList) (cmpI x.k y.k)
theorem cmpN_bd (x y : Bg) : -1 ≤ cmpN x y ∧ cmpN x y ≤ 1 := by
  unfold cmpN or2
  split
  · exact cmpB_bd _ _
  · exact cmpI_bd _ _
theorem cmpN_bef (x y : Bg) : decide (cmpN x y < 0) = befB x y := by
  unfold cmpN befB or2 lessK cmpI
  rw [Lib.toList_data, Lib.toList_data, ← cmpB_less]
  by_cases h : Lib.compareBytes x.n.data.toList y.n.data.toList = 0
  · have hn : x.n = y.n := data_inj ((cmpB_eq _ _).1 h)
    rw [h]
    simp only [ne_eq, not_true_eq_false, if_false, hn, decide_true, Bool.true_and]
    by_cases h1 : x.k < y.k
    · simp [h1]
    · by_cases h2 : y.k < x.k <;> simp [h1, h2]
  · have hn : ¬ x.n = y.n := fun he => h ((cmpB_eq _ _).2 (by rw [he]))
    simp [h, hn]
theorem cmpN_zero (x y : Bg) : cmpN x y = 0 ↔ x.n = y.n ∧ x.k = y.k := by
  unfold cmpN or2 cmpI
  by_cases h : Lib.compareBytes x.n.data.toList y.n.data.toList = 0
  · have hn : x.n = y.n := data_inj ((cmpB_eq _ _).1 h)
    rw [h]
    simp only [ne_eq, not_true_eq_false, if_false, hn, true_and]
    split
    · constructor
      · intro h'; cases h'
      · intro h'; omega
    · split
      · constructor
        · intro h'; cases h'
        · intro h'; omega
      · constructor
        · intro _; omega
        · intro _; rfl
  · have hn : ¬ x.n = y.n := fun he => h ((cmpB_eq _ _).2 (by rw [he]))
    simp [h, hn]
/-- The order of hasTwoNames. -/
def cmpT (x y : Bg) : Int := or2 (cmpI x.r y.r) (cmpI x.k y.k)
def ltT (x y : Bg) : Bool := decide (x.r < y.r) || (x.r == y.r && decide (x.k < y.k))
theorem cmpT_lt (x y : Bg) : decide (cmpT x y < 0) = ltT x y := by
  unfold cmpT ltT or2 cmpI
  by_cases h1 : x.r < y.r
  · simp [h1]
  · by_cases h2 : y.r < x.r
    · have : (x.r == y.r) = false := by rw [beq_eq_false_iff_ne]; omega
      simp [h1, h2, this]
    · have h3 : x.r = y.r := by omega
      by_cases h4 : x.k < y.k
      · simp [h3, h4]
      · by_cases h5 : y.k < x.k <;> simp [h3, h4, h5]
set_option maxRecDepth 100000 in
set_option maxHeartbeats 4000000 in
theorem cmpN_any (x y : Bg) (w : World) : Calls Tryz.prog 54 #[.agg #[.string x.n, .int .i64 x.r, .int .i64 x.k, .int .i64 x.s], .agg #[.string y.n, .int .i64 y.r, .int .i64 y.k, .int .i64 y.s]] w fun e w' =>
      e = .returned (.int .i64 (cmpN x y)) ∧ Below w.heap.size w w' := by
  have h1 := fun w => scmp_any x.n y.n w
  have h2 := fun w => cmpi_any x.k y.k w
  have h3 := fun g w h0 h1 => or_any (Lib.compareBytes x.n.data.toList y.n.data.toList) (cmpI x.k y.k) g w h0 h1
  unfold cmpN
  obtain ⟨n, r, k, s⟩ := x
  obtain ⟨n', r', k', s'⟩ := y
  dsimp only at h1 h2 h3 ⊢
  generalize or2 (Lib.compareBytes n.data.toList n'.data.toList) (cmpI k k') = R at *
  generalize Lib.compareBytes n.data.toList n'.data.toList = p at *
  generalize cmpI k k' = q at *
  go_enter Tryz.func54, Tryz.ntmps54
  go_wp2
  go_region_law (go_simp; first
    | (go_at_call 57; refine (h2 _).mono ?_; rintro e w' ⟨rfl, rfl⟩)
    | (go_at_call 56; refine (h1 _).mono ?_; rintro e w' ⟨rfl, rfl⟩)
    | (go_at_call 55; refine (h3 _ _ (by go_simp) (by go_simp)).mono ?_; rintro e w' ⟨rfl, rfl⟩))
  all_goals
    go_wp2
    go_ret
    exact ⟨rfl, by first | exact bal (b2 _ _) _ | exact (bal (b2 _ _) _).drew | exact (bal (b2 _ _) _).drewN _⟩
end Go.Proofs.YtpehbfghajlgmaaGreat
