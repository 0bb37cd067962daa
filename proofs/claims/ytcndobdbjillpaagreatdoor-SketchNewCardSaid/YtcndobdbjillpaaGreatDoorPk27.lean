/- Kn12: in one text. -/
import Derived.Test.YtcndobdbjillpaaGreatDoorPk26
import Derived.Test.YtcndobdbjillpaaGreatDoorPk07
import Derived.Test.YtcndobdbjillpaaGreatDoorPk00
namespace Go.Proofs.YtcndobdbjillpaaGreatDoor
open Go.RowKit
set_option linter.unusedVariables false
set_option linter.unusedSimpArgs false
theorem mask1_12 (n : Int) : bits .and .i64 n 1 = n % 2 := i64_mask 1 (by decide) n
/-- Small valid parameters. -/
def PmOk (k S D x : Int) : Prop := (1 ≤ k ∧ k ≤ 6) ∧ (0 ≤ S ∧ S ≤ 8) ∧ (0 ≤ D ∧ D ≤ 2) ∧ (0 ≤ x ∧ x ≤ 3) ∧ prmE k S D x = 0
theorem prm_cm {S D x : Int} (h : 1 ≤ S ∧ S ≤ 4) (h2 : 1 ≤ D ∧ D ≤ 2) : prmE 2 S D x = 0 := by
  have : shpB D S = true := by unfold shpB; simp; omega
  simp [prmE, newE, this]
theorem prm_ll {S x : Int} (h : 2 ≤ S ∧ S ≤ 3) : prmE 3 S 0 x = 0 := by
  have : prB S = true := by unfold prB; simp; omega
  simp [prmE, newLE, this]
theorem prm_to {S : Int} (h : 1 ≤ S ∧ S ≤ 4) : prmE 4 S 0 0 = 0 := by
  have : ¬ (S < 1 ∨ 32 < S) := by omega
  simp [prmE, newTE, this]
theorem prm_fq {S : Int} (h : 1 ≤ S ∧ S ≤ 4) : prmE 5 S 0 0 = 0 := by
  have : ¬ (S < 1 ∨ 32 < S) := by omega
  simp [prmE, newTE, this]
theorem prm_rk {S : Int} (h : S = 2 ∨ S = 4) : prmE 6 S 0 0 = 0 := by
  rcases h with rfl | rfl <;> simp [prmE, newRE, szR]
set_option maxRecDepth 100000 in
set_option maxHeartbeats 1000000 in
theorem bprm_0 (m : Int) (w : World) (h0 : 0 ≤ m) (h1 : m ≤ 70000) (hr : m.tmod 6 = 0) :
    Calls Tryz.prog 31 #[.int .i64 m] w fun e w' => e = .returned (.agg #[.int .i64 1, .int .i64 (0), .int .i64 (0), .int .u64 (0)]) ∧ Below w.heap.size w w' := by
  have m1 := mask1_12 (m / 8)
  have m2 := mask2 (m / 8)
  have m3 := mask2 (m / 16)
  have m4 := mask2 (m / 256)
  have e1 : 0 ≤ m / 8 % 2 ∧ m / 8 % 2 ≤ 1 := by omega
  have e2 : 0 ≤ m / 8 % 4 ∧ m / 8 % 4 ≤ 3 := by omega
  have e3 : 0 ≤ m / 16 % 4 ∧ m / 16 % 4 ≤ 3 := by omega
  have e4 : 0 ≤ m / 256 % 4 ∧ m / 256 % 4 ≤ 3 := by omega
  generalize m / 8 % 2 = p at *
  generalize m / 8 % 4 = q at *
  generalize m / 16 % 4 = t at *
  generalize m / 256 % 4 = u at *
  go_enter Tryz.func31, Tryz.ntmps31
  go_wp2
  all_goals
    refine bodyPost_ret (v := .agg #[.int .i64 1, .int .i64 (0), .int .i64 (0), .int .u64 (0)]) (by simp [results, Tryz.results31, go_sem, *]) rfl ⟨rfl, ?_⟩
    repeat (first | exact Below.refl _ _ | refine bset ?_ _ _ _ (by simp <;> omega) | refine bal ?_ _ | refine below_drew ?_)
set_option maxRecDepth 100000 in
set_option maxHeartbeats 1000000 in
theorem bprm_1 (m : Int) (w : World) (h0 : 0 ≤ m) (h1 : m ≤ 70000) (hr : m.tmod 6 = 1) :
    Calls Tryz.prog 31 #[.int .i64 m] w fun e w' => e = .returned (.agg #[.int .i64 2, .int .i64 (1 + m / 16 % 4), .int .i64 (1 + m / 8 % 2), .int .u64 (m / 256 % 4)]) ∧ Below w.heap.size w w' := by
  have m1 := mask1_12 (m / 8)
  have m2 := mask2 (m / 8)
  have m3 := mask2 (m / 16)
  have m4 := mask2 (m / 256)
  have e1 : 0 ≤ m / 8 % 2 ∧ m / 8 % 2 ≤ 1 := by omega
  have e2 : 0 ≤ m / 8 % 4 ∧ m / 8 % 4 ≤ 3 := by omega
  have e3 : 0 ≤ m / 16 % 4 ∧ m / 16 % 4 ≤ 3 := by omega
  have e4 : 0 ≤ m / 256 % 4 ∧ m / 256 % 4 ≤ 3 := by omega
  generalize m / 8 % 2 = p at *
  generalize m / 8 % 4 = q at *
  generalize m / 16 % 4 = t at *
  generalize m / 256 % 4 = u at *
  go_enter Tryz.func31, Tryz.ntmps31
  go_wp2
  all_goals
    refine bodyPost_ret (v := .agg #[.int .i64 2, .int .i64 (1 + t), .int .i64 (1 + p), .int .u64 (u)]) (by simp [results, Tryz.results31, go_sem, *]) rfl ⟨rfl, ?_⟩
    repeat (first | exact Below.refl _ _ | refine bset ?_ _ _ _ (by simp <;> omega) | refine bal ?_ _ | refine below_drew ?_)
set_option maxRecDepth 100000 in
set_option maxHeartbeats 1000000 in
theorem bprm_2 (m : Int) (w : World) (h0 : 0 ≤ m) (h1 : m ≤ 70000) (hr : m.tmod 6 = 2) :
    Calls Tryz.prog 31 #[.int .i64 m] w fun e w' => e = .returned (.agg #[.int .i64 3, .int .i64 (2 + m / 8 % 2), .int .i64 (0), .int .u64 (m / 256 % 4)]) ∧ Below w.heap.size w w' := by
  have m1 := mask1_12 (m / 8)
  have m2 := mask2 (m / 8)
  have m3 := mask2 (m / 16)
  have m4 := mask2 (m / 256)
  have e1 : 0 ≤ m / 8 % 2 ∧ m / 8 % 2 ≤ 1 := by omega
  have e2 : 0 ≤ m / 8 % 4 ∧ m / 8 % 4 ≤ 3 := by omega
  have e3 : 0 ≤ m / 16 % 4 ∧ m / 16 % 4 ≤ 3 := by omega
  have e4 : 0 ≤ m / 256 % 4 ∧ m / 256 % 4 ≤ 3 := by omega
  generalize m / 8 % 2 = p at *
  generalize m / 8 % 4 = q at *
  generalize m / 16 % 4 = t at *
  generalize m / 256 % 4 = u at *
  go_enter Tryz.func31, Tryz.ntmps31
  go_wp2
  all_goals
    refine bodyPost_ret (v := .agg #[.int .i64 3, .int .i64 (2 + p), .int .i64 (0), .int .u64 (u)]) (by simp [results, Tryz.results31, go_sem, *]) rfl ⟨rfl, ?_⟩
    repeat (first | exact Below.refl _ _ | refine bset ?_ _ _ _ (by simp <;> omega) | refine bal ?_ _ | refine below_drew ?_)
set_option maxRecDepth 100000 in
set_option maxHeartbeats 1000000 in
theorem bprm_3 (m : Int) (w : World) (h0 : 0 ≤ m) (h1 : m ≤ 70000) (hr : m.tmod 6 = 3) :
    Calls Tryz.prog 31 #[.int .i64 m] w fun e w' => e = .returned (.agg #[.int .i64 4, .int .i64 (1 + m / 8 % 4), .int .i64 (0), .int .u64 (0)]) ∧ Below w.heap.size w w' := by
  have m1 := mask1_12 (m / 8)
  have m2 := mask2 (m / 8)
  have m3 := mask2 (m / 16)
  have m4 := mask2 (m / 256)
  have e1 : 0 ≤ m / 8 % 2 ∧ m / 8 % 2 ≤ 1 := by omega
  have e2 : 0 ≤ m / 8 % 4 ∧ m / 8 % 4 ≤ 3 := by omega
  have e3 : 0 ≤ m / 16 % 4 ∧ m / 16 % 4 ≤ 3 := by omega
  have e4 : 0 ≤ m / 256 % 4 ∧ m / 256 % 4 ≤ 3 := by omega
  generalize m / 8 % 2 = p at *
  generalize m / 8 % 4 = q at *
  generalize m / 16 % 4 = t at *
  generalize m / 256 % 4 = u at *
  go_enter Tryz.func31, Tryz.ntmps31
  go_wp2
  all_goals
    refine bodyPost_ret (v := .agg #[.int .i64 4, .int .i64 (1 + q), .int .i64 (0), .int .u64 (0)]) (by simp [results, Tryz.results31, go_sem, *]) rfl ⟨rfl, ?_⟩
    repeat (first | exact Below.refl _ _ | refine bset ?_ _ _ _ (by simp <;> omega) | refine bal ?_ _ | refine below_drew ?_)
set_option maxRecDepth 100000 in
set_option maxHeartbeats 1000000 in
theorem bprm_4 (m : Int) (w : World) (h0 : 0 ≤ m) (h1 : m ≤ 70000) (hr : m.tmod 6 = 4) :
    Calls Tryz.prog 31 #[.int .i64 m] w fun e w' => e = .returned (.agg #[.int .i64 5, .int .i64 (1 + m / 8 % 4), .int .i64 (0), .int .u64 (0)]) ∧ Below w.heap.size w w' := by
  have m1 := mask1_12 (m / 8)
  have m2 := mask2 (m / 8)
  have m3 := mask2 (m / 16)
  have m4 := mask2 (m / 256)
  have e1 : 0 ≤ m / 8 % 2 ∧ m / 8 % 2 ≤ 1 := by omega
  have e2 : 0 ≤ m / 8 % 4 ∧ m / 8 % 4 ≤ 3 := by omega
  have e3 : 0 ≤ m / 16 % 4 ∧ m / 16 % 4 ≤ 3 := by omega
  have e4 : 0 ≤ m / 256 % 4 ∧ m / 256 % 4 ≤ 3 := by omega
  generalize m / 8 % 2 = p at *
  generalize m / 8 % 4 = q at *
  generalize m / 16 % 4 = t at *
  generalize m / 256 % 4 = u at *
  go_enter Tryz.func31, Tryz.ntmps31
  go_wp2
  all_goals
    refine bodyPost_ret (v := .agg #[.int .i64 5, .int .i64 (1 + q), .int .i64 (0), .int .u64 (0)]) (by simp [results, Tryz.results31, go_sem, *]) rfl ⟨rfl, ?_⟩
    repeat (first | exact Below.refl _ _ | refine bset ?_ _ _ _ (by simp <;> omega) | refine bal ?_ _ | refine below_drew ?_)
set_option maxRecDepth 100000 in
set_option maxHeartbeats 1000000 in
theorem bprm_5 (m : Int) (w : World) (h0 : 0 ≤ m) (h1 : m ≤ 70000) (hr : m.tmod 6 = 5) :
    Calls Tryz.prog 31 #[.int .i64 m] w fun e w' => e = .returned (.agg #[.int .i64 6, .int .i64 (2 + 2 * (m / 8 % 2)), .int .i64 (0), .int .u64 (0)]) ∧ Below w.heap.size w w' := by
  have m1 := mask1_12 (m / 8)
  have m2 := mask2 (m / 8)
  have m3 := mask2 (m / 16)
  have m4 := mask2 (m / 256)
  have e1 : 0 ≤ m / 8 % 2 ∧ m / 8 % 2 ≤ 1 := by omega
  have e2 : 0 ≤ m / 8 % 4 ∧ m / 8 % 4 ≤ 3 := by omega
  have e3 : 0 ≤ m / 16 % 4 ∧ m / 16 % 4 ≤ 3 := by omega
  have e4 : 0 ≤ m / 256 % 4 ∧ m / 256 % 4 ≤ 3 := by omega
  generalize m / 8 % 2 = p at *
  generalize m / 8 % 4 = q at *
  generalize m / 16 % 4 = t at *
  generalize m / 256 % 4 = u at *
  go_enter Tryz.func31, Tryz.ntmps31
  go_wp2
  all_goals
    refine bodyPost_ret (v := .agg #[.int .i64 6, .int .i64 (2 + 2 * (p)), .int .i64 (0), .int .u64 (0)]) (by simp [results, Tryz.results31, go_sem, *]) rfl ⟨rfl, ?_⟩
    repeat (first | exact Below.refl _ _ | refine bset ?_ _ _ _ (by simp <;> omega) | refine bal ?_ _ | refine below_drew ?_)
theorem bprm_any (m : Int) (w : World) (h0 : 0 ≤ m) (h1 : m ≤ 70000) :
    Calls Tryz.prog 31 #[.int .i64 m] w fun e w' => ∃ k S D x, e = .returned (.agg #[.int .i64 k, .int .i64 S, .int .i64 D, .int .u64 x]) ∧ PmOk k S D x ∧ Below w.heap.size w w' := by
  have hq : m.tmod 6 = m % 6 := Int.tmod_eq_emod_of_nonneg h0
  have h6 : m.tmod 6 = 0 ∨ m.tmod 6 = 1 ∨ m.tmod 6 = 2 ∨ m.tmod 6 = 3 ∨ m.tmod 6 = 4 ∨ m.tmod 6 = 5 := by omega
  rcases h6 with h | h | h | h | h | h
  · exact (bprm_0 m w h0 h1 h).mono (fun e w' he => ⟨_, _, _, _, he.1, ⟨by decide, by omega, by omega, by omega, by simp [prmE]⟩, he.2⟩)
  · exact (bprm_1 m w h0 h1 h).mono (fun e w' he => ⟨_, _, _, _, he.1, ⟨by decide, by omega, by omega, by omega, prm_cm (by omega) (by omega)⟩, he.2⟩)
  · exact (bprm_2 m w h0 h1 h).mono (fun e w' he => ⟨_, _, _, _, he.1, ⟨by decide, by omega, by omega, by omega, prm_ll (by omega)⟩, he.2⟩)
  · exact (bprm_3 m w h0 h1 h).mono (fun e w' he => ⟨_, _, _, _, he.1, ⟨by decide, by omega, by omega, by omega, prm_to (by omega)⟩, he.2⟩)
  · exact (bprm_4 m w h0 h1 h).mono (fun e w' he => ⟨_, _, _, _, he.1, ⟨by decide, by omega, by omega, by omega, prm_fq (by omega)⟩, he.2⟩)
  · exact (bprm_5 m w h0 h1 h).mono (fun e w' he => ⟨_, _, _, _, he.1, ⟨by decide, by omega, by omega, by omega, prm_rk (by omega)⟩, he.2⟩)
set_option maxRecDepth 100000 in
set_option maxHeartbeats 1000000 in
theorem lprm_any (n x : Int) (w : World) :
    Calls Tryz.prog 10 #[.int .i64 n, .int .u64 x] w fun e w' => ∃ k S D y, e = .returned (.agg #[.int .i64 k, .int .i64 S, .int .i64 D, .int .u64 y]) ∧ I64 S ∧ I64 D ∧ Below w.heap.size w w' := by
  have m0 := mask3 n
  by_cases h7 : n % 8 = 7
  · have h7' : (n % 8 == 7) = true := by simp [h7]
    have m1 := mask3 (n / 8)
    have m2 : bits .and .i64 (n / 64) 31 = n / 64 % 32 := i64_mask 5 (by decide) _
    have m3 : bits .and .i64 (n / 2048) 63 = n / 2048 % 64 := i64_mask 6 (by decide) _
    have m4 := mask4 (n / 131072)
    have e1 : 0 ≤ n / 8 % 8 ∧ n / 8 % 8 ≤ 7 := by omega
    have e2 : 0 ≤ n / 64 % 32 ∧ n / 64 % 32 ≤ 31 := by omega
    have e3 : 0 ≤ n / 2048 % 64 ∧ n / 2048 % 64 ≤ 63 := by omega
    have e4 : 0 ≤ n / 131072 % 16 ∧ n / 131072 % 16 ≤ 15 := by omega
    generalize n / 8 % 8 = p at *
    generalize n / 64 % 32 = q at *
    generalize n / 2048 % 64 = t at *
    generalize n / 131072 % 16 = u at *
    have e5 : 0 ≤ q / 31 ∧ q / 31 ≤ 1 := by omega
    obtain ⟨e10, e11⟩ := e1
    obtain ⟨e20, e21⟩ := e2
    obtain ⟨e30, e31⟩ := e3
    obtain ⟨e40, e41⟩ := e4
    obtain ⟨e50, e51⟩ := e5
    clear h7
    go_enter Tryz.func10, Tryz.ntmps10
    go_wp2
    all_goals
      refine bodyPost_ret (v := .agg #[.int .i64 (p - 1 + q / 31 * 5), .int .i64 (t - 1), .int .i64 (u - 1), .int .u64 (bits .and .u64 x 1)]) (by simp [results, Tryz.results10, go_sem, *]) rfl ⟨_, _, _, _, rfl, by unfold I64; omega, by unfold I64; omega, ?_⟩
      repeat (first | exact Below.refl _ _ | refine bset ?_ _ _ _ (by simp <;> omega) | refine bal ?_ _ | refine below_drew ?_)
  · have h7' : (n % 8 == 7) = false := by simp [h7]
    have m1 := mask16 (n / 8)
    have e1 : 0 ≤ n / 8 % 65536 ∧ n / 8 % 65536 ≤ 65535 := by omega
    have HB := Lib.hid (fun w => bprm_any (n / 8 % 65536) w (by omega) (by omega))
    generalize n / 8 % 65536 = p at *
    clear h7
    go_enter Tryz.func10, Tryz.ntmps10
    go_upto_region 1 with (fail)
    refine wp_genW (fun w1 => RowAt w.heap.size zcPm w1 ∧ Below w.heap.size w w1) ⟨RowAt.new _ _ _, b1 _⟩ ?_
    rintro w1 ⟨r1, hb⟩
    have R1 := Lib.hid r1
    have B1 := Lib.hid hb
    clear r1 hb
    go_wp2_with (first
      | (go_at_call 31; (with_reducible refine (HB.out _).mono ?_); rintro e w2 ⟨k, S, D, y, rfl, ho, hb2⟩; have R2 := Lib.hid (R1.out.go hb2); have B2 := Lib.hid (bgo B1.out hb2); have O2 := Lib.hid ho; clear hb2 ho R1 B1)
      | (refine stPm (A' := #[.int .i64 k, .int .i64 S, .int .i64 D, .int .u64 y]) rfl rfl rfl R2.out rfl rfl (all_one rfl) (show 0 + 4 ≤ 4 by decide) (by kernel_rfl) ?_; intro w3 r3 o3; have R3 := Lib.hid r3; have B3 := Lib.hid (B2.out.trans o3.1); clear r3 o3 R2 B2))
    exact ret_row Tryz.results10 rfl rfl R3.out Tryz.underlying24 rfl infPm ⟨_, _, _, _, rfl, by have := O2.out.2.1; unfold I64; omega, by have := O2.out.2.2.1; unfold I64; omega, B3.out⟩
theorem nu_tally : nuK 1 0 0 0 = ⟨1, 0, 0, 0, 0, 0, false, CM.none, LL.none, TP.none, FQ.none, RK.none⟩ := by rw [nu_em (by decide)]; rfl
theorem wf_tally : WfK ⟨1, 0, 0, 0, 0, 0, false, CM.none, LL.none, TP.none, FQ.none, RK.none⟩ := ⟨by unfold I64; decide, by unfold I64; decide, by unfold I64; decide, by unfold U64; decide, by unfold I64; decide, by unfold I64; decide, by unfold I64; decide, by unfold I64; decide, by unfold U64; decide, by unfold I64; decide, by unfold U64; decide, by unfold I64; decide, by unfold I64; decide, by decide, by decide, ⟨by decide, fun l hl => by cases hl⟩⟩
theorem val_tally : valK ⟨1, 0, 0, 0, 0, 0, false, CM.none, LL.none, TP.none, FQ.none, RK.none⟩ = 0 := by decide
set_option maxRecDepth 100000 in
set_option maxHeartbeats 2000000 in
theorem known12_any (w : World) :
    Calls Tryz.prog 16 #[] w fun e w' => e = .returned (.bool true) ∧ Below w.heap.size w w' := by
  have HN := Lib.hid (fun w => new_any 1 0 0 0 w (by unfold I64; decide) (by unfold I64; decide))
  rw [nu_tally] at HN
  have HE : prmE 1 0 0 0 = 0 := by decide
  rw [HE] at HN
  have HM := Lib.hid (fun w => new_any 1 1 0 0 w (by unfold I64; decide) (by unfold I64; decide))
  have HE2 : prmE 1 1 0 0 = 10 := by decide
  rw [HE2] at HM
  generalize nuK 1 1 0 0 = z at *
  have HI : Hid (∀ (a1 : Option Addr) (c1 : Nat) (a2 : Option Addr) (c2 : Nat) (a3 : Option Addr) (c3 : Nat) (a4 : Option Addr) (c4 : Nat) (a5 : Option Addr) (c5 : Nat) (w : World), RowsK ⟨1, 0, 0, 0, 0, 0, false, CM.none, LL.none, TP.none, FQ.none, RK.none⟩ (.slice a1 0 c1) (.slice a2 0 c2) (.slice a3 0 c3) (.slice a4 0 c4) (.slice a5 0 c5) w →
      Calls Tryz.prog 28 #[.agg (skA ⟨1, 0, 0, 0, 0, 0, false, CM.none, LL.none, TP.none, FQ.none, RK.none⟩ (.slice a1 0 c1) (.slice a2 0 c2) (.slice a3 0 c3) (.slice a4 0 c4) (.slice a5 0 c5)), .agg #[.string ⟨#[97]⟩, .int .i64 3], .slice none 0 0, .int .i64 5] w fun e w' => e = .returned (.tuple #[.agg #[.int .i64 1, .int .i64 0, .int .i64 0, .int .u64 0, .int .i64 3, .int .i64 1, .bool false, .int .i64 0, .int .i64 0, .int .u64 0, .slice none 0 0, .bool false, .int .i64 0, .int .u64 0, .slice none 0 0, .int .i64 0, .int .i64 0, .slice none 0 0, .bool false, .int .i64 0, .int .i64 0, .int .i64 0, .slice none 0 0, .bool false, .int .i64 0, .int .i64 0, .int .i64 0, .slice none 0 0, .bool false], .int .i64 5, .int .i64 0]) ∧ Below w.heap.size w w') :=
    Lib.hid (fun a1 c1 a2 c2 a3 c3 a4 c4 a5 c5 w h => ins_t ⟨1, 0, 0, 0, 0, 0, false, CM.none, LL.none, TP.none, FQ.none, RK.none⟩ a1 c1 a2 c2 a3 c3 a4 c4 a5 c5 none 0 0 ⟨#[97]⟩ 3 5 w rfl wf_tally h val_tally (by decide) (by decide) (by decide) (by decide +kernel) (by decide) (by decide))
  have HU := Lib.hid (fun w => units_t #[.int .i64 1, .int .i64 0, .int .i64 0, .int .u64 0, .int .i64 3, .int .i64 1, .bool false, .int .i64 0, .int .i64 0, .int .u64 0, .slice none 0 0, .bool false, .int .i64 0, .int .u64 0, .slice none 0 0, .int .i64 0, .int .i64 0, .slice none 0 0, .bool false, .int .i64 0, .int .i64 0, .int .i64 0, .slice none 0 0, .bool false, .int .i64 0, .int .i64 0, .int .i64 0, .slice none 0 0, .bool false] rfl w)
  clear HE HE2
  go_enter Tryz.func16, Tryz.ntmps16
  go_wp2_with (first
    | (go_at_call 11; (with_reducible refine (HN.out _).mono ?_); rintro e w1 ⟨v, rfl, ho, hb1⟩; obtain ⟨a1, c1, a2, c2, a3, c3, a4, c4, a5, c5, rfl, hr⟩ := ho.rd.run; have O1 := Lib.hid hr; have B1 := Lib.hid hb1; clear hb1 hr ho)
    | (refine stWh rfl rfl rfl (RowAt.new w1 _ _) rfl rfl rfl rfl ?_; intro w2 r2 o2; have S2 := Lib.hid r2; have D2 := Lib.hid (Below.trans (b1 _) (o2.1 : Below w1.heap.size _ w2)); have B2 := Lib.hid (bgo B1.out D2.out); have O2 : Hid (RowsK ⟨1, 0, 0, 0, 0, 0, false, CM.none, LL.none, TP.none, FQ.none, RK.none⟩ (.slice a1 0 c1) (.slice a2 0 c2) (.slice a3 0 c3) (.slice a4 0 c4) (.slice a5 0 c5) w2) := Lib.hid (O1.out.below D2.out); clear r2 o2 B1 O1)
    | (refine ldSk (B := skA ⟨1, 0, 0, 0, 0, 0, false, CM.none, LL.none, TP.none, FQ.none, RK.none⟩ (.slice a1 0 c1) (.slice a2 0 c2) (.slice a3 0 c3) (.slice a4 0 c4) (.slice a5 0 c5)) rfl rfl rfl S2.out rfl (by kernel_rfl) ?_)
    | (go_at_call 28; (with_reducible refine (HI.out a1 c1 a2 c2 a3 c3 a4 c4 a5 c5 _ O2.out).mono ?_); rintro e w3 ⟨rfl, hb3⟩; have B3 := Lib.hid (bgo B2.out hb3); clear hb3 B2 O2 S2)
    | (refine stWh rfl rfl rfl (RowAt.new w3 _ _) rfl rfl rfl rfl ?_; intro w4 r4 o4; have S4 := Lib.hid r4; have B4 := Lib.hid (bgo B3.out (Below.trans (b1 _) (o4.1 : Below w3.heap.size _ w4))); clear r4 o4 B3)
    | (go_at_call 11; (with_reducible refine (HM.out _).mono ?_); rintro e w5 ⟨v, rfl, ho, hb1⟩; obtain ⟨e1, d1, e2, d2, e3, d3, e4, d4, e5, d5, rfl, hr⟩ := ho.rd.run; have S5 := Lib.hid (S4.out.go hb1); have B5 := Lib.hid (bgo B4.out hb1); clear hb1 hr ho S4 B4)
    | (refine stWh rfl rfl rfl (RowAt.new w5 _ _) rfl rfl rfl rfl ?_; intro w6 r6 o6; have D6 := Lib.hid (Below.trans (b1 _) (o6.1 : Below w5.heap.size _ w6)); have S6 := Lib.hid (S5.out.go D6.out); have B6 := Lib.hid (bgo B5.out D6.out); clear r6 o6 B5 S5)
    | (refine wpList_if (p := true) (v := .int .i64 3) rfl (fun _ => run_cell rfl rfl S6.out Tryz.underlying3 rfl rfl) ?_)
    | (refine lgSk (B := #[.int .i64 1, .int .i64 0, .int .i64 0, .int .u64 0, .int .i64 3, .int .i64 1, .bool false, .int .i64 0, .int .i64 0, .int .u64 0, .slice none 0 0, .bool false, .int .i64 0, .int .u64 0, .slice none 0 0, .int .i64 0, .int .i64 0, .slice none 0 0, .bool false, .int .i64 0, .int .i64 0, .int .i64 0, .slice none 0 0, .bool false, .int .i64 0, .int .i64 0, .int .i64 0, .slice none 0 0, .bool false]) rfl rfl rfl S6.out rfl (by kernel_rfl) ?_)
    | (go_at_call 24; (with_reducible refine (HU.out _).mono ?_); rintro e w7 ⟨rfl, hb7⟩; have B7 := Lib.hid (bgo B6.out hb7); clear hb7))
  go_ret
  exact ⟨rfl, B7.out⟩
end Go.Proofs.YtcndobdbjillpaaGreatDoor
