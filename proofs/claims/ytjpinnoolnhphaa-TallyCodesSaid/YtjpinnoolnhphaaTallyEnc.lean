/- The contracts of tally.Encode and of the reference's. -/
import Derived.Test.YtjpinnoolnhphaaRTally
import Derived.Test.YtjpinnoolnhphaaWire
import Derived.Test.YtjpinnoolnhphaaWireRef
import Derived.Test.YtjpinnoolnhphaaStepApp
import Derived.Deep.RegionLaw
namespace Go.Proofs.Ytjpinnoolnhphaa
open Go.RowKit
set_option linter.unusedVariables false
set_option linter.unusedSimpArgs false
/-- The encoding of a flag. -/
def flagN (s : Bool) : Nat := if s then 1 else 0
/-- The encoding of a tally. -/
def codT (T I : Int) (s : Bool) : List Int := if valT T I = 0 then uintB T.toNat ++ uintB I.toNat ++ uintB (flagN s) else []
/-- How far the numbers are written. -/
def EncR (B : Nat) (A1 A2 A3 : List Int) (v c : Value) (w : World) : Prop :=
  (c = .int .i64 0 ∧ Own B [] v w) ∨ (c = .int .i64 1 ∧ Own B A1 v w) ∨ (c = .int .i64 2 ∧ Own B (A1 ++ A2) v w) ∨ (c = .int .i64 3 ∧ Own B (A1 ++ A2 ++ A3) v w)
/-- An element of an array of three ints, by value. -/
theorem idx3 (a b c : Value) (w : World) : (Instr.index 48 (.agg #[a, b, c]) (.int .i64 0)).run Try.prog w = .ok a w ∧ (Instr.index 48 (.agg #[a, b, c]) (.int .i64 1)).run Try.prog w = .ok b w ∧ (Instr.index 48 (.agg #[a, b, c]) (.int .i64 2)).run Try.prog w = .ok c w := by
  refine ⟨?_, ?_, ?_⟩
  all_goals simp [Instr.index, run_underlying Try.underlying48, asIntOf, go_sem]
theorem k_uint (n : Nat) (hn : n ≤ 4611686018427387904) (w : World) :
    Calls Try.prog 28 #[.int .i64 n] w fun e w' => ∃ v, e = .returned (.tuple #[v, .int .i64 0]) ∧ Own w.heap.size (uintB n) v w' ∧ Below w.heap.size w w' := by
  have h := encUint_any n w (by omega) (by omega)
  unfold encE encB at h
  rw [if_pos (by omega), if_pos (by omega), Int.toNat_natCast] at h
  exact h
set_option maxRecDepth 100000 in
set_option maxHeartbeats 1000000 in
theorem tenc_any (T I : Int) (s : Bool) (w : World) (T0 : -9223372036854775808 ≤ T) (T1 : T ≤ 9223372036854775807) (I0 : -9223372036854775808 ≤ I) (I1 : I ≤ 9223372036854775807) :
    Calls Try.prog 17 #[.agg #[.int .i64 T, .int .i64 I, .bool s]] w fun e w' => ∃ v, e = .returned (.tuple #[v, .int .i64 (valT T I)]) ∧ Own w.heap.size (codT T I s) v w' ∧ Below w.heap.size w w' := by
  have h1 := fun w => tval_any T I s w T0 T1 I0 I1
  unfold codT
  by_cases hv : valT T I = 0
  · rw [if_pos hv]
    have hb : 0 ≤ I ∧ I ≤ T ∧ T ≤ 4294967295 := by
      unfold valT at hv
      split at hv <;> omega
    obtain ⟨t, rfl⟩ : ∃ t : Nat, T = (t : Int) := ⟨T.toNat, by omega⟩
    obtain ⟨i, rfl⟩ : ∃ i : Nat, I = (i : Int) := ⟨I.toNat, by omega⟩
    rw [Int.toNat_natCast, Int.toNat_natCast]
    rw [hv] at h1 ⊢
    have hf : flagN s ≤ 1 := by unfold flagN; split <;> omega
    have l1 := (uintB_len t (by omega)).2
    have l2 := (uintB_len i (by omega)).2
    have l3 := (uintB_len (flagN s) (by omega)).2
    have h2 := fun w => k_uint t (by omega) w
    have h3 := fun w => k_uint i (by omega) w
    have h4 := fun w => k_uint (flagN s) (by omega) w
    obtain ⟨f, hfe⟩ : ∃ f : Int, ((flagN s : Nat) : Int) = f := ⟨_, rfl⟩
    have hs : (s = false ∧ f = 0) ∨ (s = true ∧ f = 1) := by subst hfe; cases s <;> simp [flagN]
    rw [hfe] at h4
    clear hfe
    generalize uintB t = A at *
    generalize uintB i = B at *
    generalize uintB (flagN s) = C at *
    clear hv hf
    rcases hs with ⟨rfl, rfl⟩ | ⟨rfl, rfl⟩
    all_goals
      go_enter Try.func17, Try.ntmps17
      go_wp2_with (go_at_call 12; ((with_reducible refine (h1 _).mono ?_); rintro e w2 ⟨rfl, hb2⟩; have B2 := Lib.hid (bgo (b1 _) hb2); obtain ⟨hc2, hf2⟩ := bcell hb2; have hz2 : w.heap.size < w2.heap.size := (by have := hb2.size; simp at this; omega); clear hb2))
      go_loopw [6, 24] (fun v c wr => EncR w.heap.size A B C v c wr ∧ Hid (Below w.heap.size w wr)) (fun _ c _ => 3 - (intOf c).toNat)
      case atStart => exact ⟨.inl ⟨rfl, Own.empty _ _⟩, B2⟩
      case round =>
        obtain ⟨hR, HB⟩ := hrel
        clear hc2 hf2 hz2 h1
        have hix0 := fun (f : Int) w => (idx3 (.int .i64 t) (.int .i64 i) (.int .i64 f) w).1
        have hix1 := fun (f : Int) w => (idx3 (.int .i64 t) (.int .i64 i) (.int .i64 f) w).2.1
        have hix2 := fun (f : Int) w => (idx3 (.int .i64 t) (.int .i64 i) (.int .i64 f) w).2.2
        rcases hR with ⟨rfl, ho⟩ | ⟨rfl, ho⟩ | ⟨rfl, ho⟩ | ⟨rfl, ho⟩
        · have HO := Lib.hid ho
          clear ho
          go_wp2_with (first
            | (go_at_call 28; ((with_reducible refine (h2 _).mono ?_); rintro e w3 ⟨v3, rfl, ho3, hb3⟩; have HB3 := Lib.hid (bgo HB.out hb3); have HR3 := Lib.hid ho3.rd.src; have HO3 := Lib.hid (HO.out.below hb3); clear hb3 ho3))
            | (at_builtin; refine wp_app rfl _ _ _ rfl w.heap.size ([]) (A) _ _ rfl rfl HO3.out HR3.out HB3.out.size ?c3 ?_))
          case c3 => first | omega | (simp; omega)
          intro v4 w4 ho4 hb4
          have HO4 := Lib.hid ho4
          have HB4 := Lib.hid (HB3.out.trans hb4)
          clear ho4 hb4 HO3 HR3 HB3
          go_wp2
          go_roundw
          case rel => exact ⟨.inr (.inl ⟨rfl, HO4.out⟩), HB4⟩
          case measure => simp [intOf]
        · have HO := Lib.hid ho
          clear ho
          go_wp2_with (first
            | (go_at_call 28; ((with_reducible refine (h3 _).mono ?_); rintro e w3 ⟨v3, rfl, ho3, hb3⟩; have HB3 := Lib.hid (bgo HB.out hb3); have HR3 := Lib.hid ho3.rd.src; have HO3 := Lib.hid (HO.out.below hb3); clear hb3 ho3))
            | (at_builtin; refine wp_app rfl _ _ _ rfl w.heap.size (A) (B) _ _ rfl rfl HO3.out HR3.out HB3.out.size ?c3 ?_))
          case c3 => first | omega | (simp; omega)
          intro v4 w4 ho4 hb4
          have HO4 := Lib.hid ho4
          have HB4 := Lib.hid (HB3.out.trans hb4)
          clear ho4 hb4 HO3 HR3 HB3
          go_wp2
          go_roundw
          case rel => exact ⟨.inr (.inr (.inl ⟨rfl, HO4.out⟩)), HB4⟩
          case measure => simp [intOf]
        · have HO := Lib.hid ho
          clear ho
          go_wp2_with (first
            | (go_at_call 28; ((with_reducible refine (h4 _).mono ?_); rintro e w3 ⟨v3, rfl, ho3, hb3⟩; have HB3 := Lib.hid (bgo HB.out hb3); have HR3 := Lib.hid ho3.rd.src; have HO3 := Lib.hid (HO.out.below hb3); clear hb3 ho3))
            | (at_builtin; refine wp_app rfl _ _ _ rfl w.heap.size (A ++ B) (C) _ _ rfl rfl HO3.out HR3.out HB3.out.size ?c3 ?_))
          case c3 => first | omega | (simp; omega)
          intro v4 w4 ho4 hb4
          have HO4 := Lib.hid ho4
          have HB4 := Lib.hid (HB3.out.trans hb4)
          clear ho4 hb4 HO3 HR3 HB3
          go_wp2
          go_roundw
          case rel => exact ⟨.inr (.inr (.inr ⟨rfl, by have h := HO4.out; rw [← List.append_assoc] at h; exact h⟩)), HB4⟩
          case measure => simp [intOf]
        · have HO := Lib.hid ho
          clear ho
          go_wp2
          go_ret2
          exact ⟨_, rfl, HO.out, HB.out⟩
  · rw [if_neg hv]
    generalize valT T I = E at *
    have hE2 : (E != 0) = true := by simp [hv]
    clear hv
    go_enter Try.func17, Try.ntmps17
    go_wp2_with (go_at_call 12; ((with_reducible refine (h1 _).mono ?_); rintro e w2 ⟨rfl, hb2⟩; have B2 := Lib.hid (bgo (b1 _) hb2); obtain ⟨hc2, hf2⟩ := bcell hb2; have hz2 : w.heap.size < w2.heap.size := (by have := hb2.size; simp at this; omega); clear hb2))
    go_ret2
    exact ⟨_, rfl, Own.empty _ _, B2.out⟩
theorem uintB_flag (s : Bool) : uintB (flagN s) = [(flagN s : Int)] := by
  have hf : flagN s ≤ 1 := by unfold flagN; split <;> omega
  unfold uintB
  rw [if_pos (by omega)]
theorem flag_any (s : Bool) (w : World) :
    Calls Try.prog 30 #[.bool s] w fun e w' => ∃ v, e = .returned v ∧ Own w.heap.size (uintB (flagN s)) v w' ∧ Below w.heap.size w w' := by
  rw [uintB_flag]
  cases s
  · have hb := Own.one (c := 0) (by omega) w
    go_enter Try.func30, Try.ntmps30
    go_wp2
    go_ret
    exact ⟨_, rfl, hb, b1 _⟩
  · have hb := Own.one (c := 1) (by omega) w
    go_enter Try.func30, Try.ntmps30
    go_wp2
    go_ret
    exact ⟨_, rfl, hb, b1 _⟩
set_option maxRecDepth 100000 in
set_option maxHeartbeats 2000000 in
theorem rtenc_any (T I : Int) (s : Bool) (w : World) (T0 : -9223372036854775808 ≤ T) (T1 : T ≤ 9223372036854775807) (I0 : -9223372036854775808 ≤ I) (I1 : I ≤ 9223372036854775807) :
    Calls Try.prog 18 #[.agg #[.int .i64 T, .int .i64 I, .bool s]] w fun e w' => ∃ v, e = .returned (.tuple #[v, .int .i64 (valT T I)]) ∧ Own w.heap.size (codT T I s) v w' ∧ Below w.heap.size w w' := by
  have h1 := fun w => rtval_any T I s w T0 T1 I0 I1
  unfold codT
  by_cases hv : valT T I = 0
  · rw [if_pos hv]
    have hb : 0 ≤ I ∧ I ≤ T ∧ T ≤ 4294967295 := by
      unfold valT at hv
      split at hv <;> omega
    obtain ⟨t, rfl⟩ : ∃ t : Nat, T = (t : Int) := ⟨T.toNat, by omega⟩
    obtain ⟨i, rfl⟩ : ∃ i : Nat, I = (i : Int) := ⟨I.toNat, by omega⟩
    rw [Int.toNat_natCast, Int.toNat_natCast]
    rw [hv] at h1 ⊢
    have l1 := (uintB_len t (by omega)).2
    have l2 := (uintB_len i (by omega)).2
    have l3 : (uintB (flagN s)).length ≤ 9 := by rw [uintB_flag]; simp
    have h2 := fun w => ruint_any t w (by omega)
    have h3 := fun w => ruint_any i w (by omega)
    have h4 := fun w => flag_any s w
    generalize uintB t = A at *
    generalize uintB i = B at *
    generalize uintB (flagN s) = C at *
    clear hv
    go_enter Try.func18, Try.ntmps18
    go_wp2_with (go_at_call 13; ((with_reducible refine (h1 _).mono ?_); rintro e w2 ⟨rfl, hb2⟩; have B2 := bgo (b1 _) hb2; obtain ⟨hc2, hf2⟩ := bcell hb2; have hz2 : w.heap.size < w2.heap.size := (by have := hb2.size; simp at this; omega); clear hb2))
    have hq0 : w2.cell? ⟨w.heap.size, 0, none⟩ = some (.int .i64 t) := by go_simp
    have hq1 : w2.cell? ⟨w.heap.size, 1, none⟩ = some (.int .i64 i) := by go_simp
    have hq2 : w2.cell? ⟨w.heap.size, 2, none⟩ = some (.bool s) := by go_simp
    clear hc2 hf2
    have BB := Lib.hid (below_drew B2)
    have HL := Lib.hid (show w.heap.size < w2.drew.heap.size from hz2)
    clear B2 hz2 h1
    have BB0 := Lib.hid BB.out
    have HL0 := Lib.hid HL.out
    have q00 := hq0
    have q01 := hq1
    have q02 := hq2
    clear BB HL hq0 hq1 hq2
    go_region_law (first
      | (go_simp; go_at_call 29; first
        | ((with_reducible refine (h2 _).mono ?_); rintro e w3 ⟨v3, rfl, ho3, hb3⟩; have HLT : Hid (w.heap.size < w3.heap.size) := Lib.hid (Nat.lt_of_lt_of_le (by first | exact HLI.out | exact HL0.out) hb3.size); have qT0 := (hb3.cell (p := ⟨w.heap.size, 0, none⟩) (by first | exact HLI.out | exact HL0.out)).trans (by first | exact qI0 | exact q00); have qT1 := (hb3.cell (p := ⟨w.heap.size, 1, none⟩) (by first | exact HLI.out | exact HL0.out)).trans (by first | exact qI1 | exact q01); have qT2 := (hb3.cell (p := ⟨w.heap.size, 2, none⟩) (by first | exact HLI.out | exact HL0.out)).trans (by first | exact qI2 | exact q02); have BBT : Hid (Below w.heap.size w w3) := Lib.hid (by first | exact bgo BBI.out hb3 | exact bgo BB0.out hb3); have HO := Lib.hid (Own.mono ho3 (B' := w.heap.size + 1) (by first | exact HLI.out | exact HL0.out)); try (have HRR := Lib.hid (Rd.below HR.out hb3)); clear h2 ho3 hb3)
        | ((with_reducible refine (h3 _).mono ?_); rintro e w4 ⟨v4, rfl, ho4, hb4⟩; have HLI : Hid (w.heap.size < w4.heap.size) := Lib.hid (Nat.lt_of_lt_of_le (by first | exact HLT.out | exact HL0.out) hb4.size); have qI0 := (hb4.cell (p := ⟨w.heap.size, 0, none⟩) (by first | exact HLT.out | exact HL0.out)).trans (by first | exact qT0 | exact q00); have qI1 := (hb4.cell (p := ⟨w.heap.size, 1, none⟩) (by first | exact HLT.out | exact HL0.out)).trans (by first | exact qT1 | exact q01); have qI2 := (hb4.cell (p := ⟨w.heap.size, 2, none⟩) (by first | exact HLT.out | exact HL0.out)).trans (by first | exact qT2 | exact q02); have BBI : Hid (Below w.heap.size w w4) := Lib.hid (by first | exact bgo BBT.out hb4 | exact bgo BB0.out hb4); have HR := Lib.hid (Own.rd ho4); try (have HOO := Lib.hid (Own.below HO.out hb4)); clear h3 ho4 hb4))
      | (refine step_app rfl _ _ _ rfl (w.heap.size + 1) A B _ _ rfl rfl ?_ ?_ ?_ ?_ ?_; (first | exact HOO.out | exact HO.out); (first | exact HRR.out.src | exact HR.out.src); (first | exact HLT.out | exact HLI.out); (omega); intro v5 w5 ho5 hb5; have hq2 := (hb5.cell (p := ⟨w.heap.size, 2, none⟩) (Nat.lt_succ_self _)).trans (by first | exact qT2 | exact qI2); have HO5 := Lib.hid ho5; have HL : Hid (w.heap.size < w5.heap.size) := Lib.hid (Nat.lt_of_lt_of_le (by first | exact HLT.out | exact HLI.out) hb5.size); have BB : Hid (Below w.heap.size w w5) := Lib.hid (Below.trans (by first | exact BBT.out | exact BBI.out) (hb5.mono (Nat.le_succ _))); clear ho5 hb5))
    all_goals
      go_wp2_with (first
        | (go_at_call 30; ((with_reducible refine (h4 _).mono ?_); rintro e w6 ⟨v6, rfl, ho6, hb6⟩; have HR6 := Lib.hid ho6.rd.src; have HO6 := Lib.hid (HO5.out.below hb6); have HL6 := Lib.hid (Nat.lt_of_lt_of_le HL.out hb6.size); have BB6 := Lib.hid (bgo BB.out hb6); clear ho6 hb6))
        | (at_builtin; refine wp_app rfl _ _ _ rfl (w.heap.size + 1) (A ++ B) C _ _ rfl rfl HO6.out HR6.out HL6.out ?c3 ?_))
      case c3 => simp; omega
      intro v7 w7 ho7 hb7
      have HO7 := Lib.hid ho7
      have BB7 := Lib.hid (BB6.out.trans (hb7.mono (Nat.le_succ _)))
      clear ho7 hb7
      go_wp2
      go_ret2
      have HO8 := HO7.out.mono (Nat.le_succ _)
      rw [← List.append_assoc] at HO8
      exact ⟨_, rfl, HO8, BB7.out⟩
  · rw [if_neg hv]
    generalize valT T I = E at *
    have hE2 : (E != 0) = true := by simp [hv]
    clear hv
    go_enter Try.func18, Try.ntmps18
    go_wp2_with (go_at_call 13; ((with_reducible refine (h1 _).mono ?_); rintro e w2 ⟨rfl, hb2⟩; have B2 := Lib.hid (bgo (b1 _) hb2); obtain ⟨hc2, hf2⟩ := bcell hb2; have hz2 : w.heap.size < w2.heap.size := (by have := hb2.size; simp at this; omega); clear hb2))
    go_ret2
    exact ⟨_, rfl, Own.empty _ _, B2.out⟩
end Go.Proofs.Ytjpinnoolnhphaa
