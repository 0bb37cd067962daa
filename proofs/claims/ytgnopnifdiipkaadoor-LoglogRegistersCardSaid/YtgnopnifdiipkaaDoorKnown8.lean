/- The contract of sketchstorelaw8.known. -/
import Derived.Test.YtgnopnifdiipkaaDoorLPVal
import Derived.Test.YtgnopnifdiipkaaDoorLPIns
import Derived.Test.YtgnopnifdiipkaaDoorLPEst
import Derived.Test.YtgnopnifdiipkaaDoorSameI
namespace Go.Proofs.YtgnopnifdiipkaaDoor
open Go.RowKit
set_option linter.unusedVariables false
set_option linter.unusedSimpArgs false
theorem k_e4 : llE 2 [0, 0, 0, 0] = 0 := by decide
theorem k_newL : newL 2 0 = ⟨2, 0, [0, 0, 0, 0]⟩ := by
  unfold newL
  rw [if_pos (by decide)]
  rfl
theorem k_new (w : World) : Calls Tryd.prog 11 #[.int .i64 2, .int .u64 0] w fun e w' => ∃ a n cap, e = .returned (.tuple #[.agg #[.int .i64 2, .int .u64 0, .slice a n cap], .int .i64 0]) ∧ RdI [0, 0, 0, 0] (.slice a n cap) w' ∧ Below w.heap.size w w' := by
  have h := lnew_any 2 0 w
  rw [k_newL, show newLE 2 = 0 by decide] at h
  refine h.mono ?_
  rintro e w' ⟨v, rfl, ⟨a, n, cap, rfl, ho⟩, hb⟩
  exact ⟨a, n, cap, rfl, ho.rd, hb⟩
theorem k_est (a : Option Addr) (n cap : Nat) (w : World) (hR : RdI [0, 0, 0, 0] (.slice a n cap) w) (ht : TabF w) : Calls Tryd.prog 25 #[.agg #[.int .i64 2, .int .u64 0, .slice a n cap]] w fun e w' => e = .returned (.tuple #[.int .i64 0, .int .i64 0]) ∧ Below w.heap.size w w' := by
  have h := lest_any ⟨2, 0, [0, 0, 0, 0]⟩ _ w (RdL.of hR) ht
  rw [show llEst ⟨2, 0, [0, 0, 0, 0]⟩ = 0 by unfold llEst; rw [if_neg (by simp [k_e4]), if_pos (by decide)], show llE (LL.mk 2 0 [0, 0, 0, 0]).P (LL.mk 2 0 [0, 0, 0, 0]).L = 0 from k_e4] at h
  exact h
/-- One register of four. -/
def One4 (M : List Int) : Prop := ∃ r : Int, (1 ≤ r ∧ r ≤ 63) ∧ (M = [r, 0, 0, 0] ∨ M = [0, r, 0, 0] ∨ M = [0, 0, r, 0] ∨ M = [0, 0, 0, r])
theorem one4_set {i : Nat} {r : Int} (hi : i < 4) (h0 : 1 ≤ r) (h1 : r ≤ 63) : One4 ([0, 0, 0, 0].set i (max (([0, 0, 0, 0] : List Int).getD i 0) r)) := by
  refine ⟨r, ⟨h0, h1⟩, ?_⟩
  have hm : max 0 r = r := Int.max_eq_right (by omega)
  match i, hi with
  | 0, _ => left; show [max 0 r, 0, 0, 0] = _; rw [hm]
  | 1, _ => right; left; show [0, max 0 r, 0, 0] = _; rw [hm]
  | 2, _ => right; right; left; show [0, 0, max 0 r, 0] = _; rw [hm]
  | 3, _ => right; right; right; show [0, 0, 0, max 0 r] = _; rw [hm]
theorem k_ins (a : Option Addr) (n cap : Nat) (w : World) (hR : RdI [0, 0, 0, 0] (.slice a n cap) w) : Calls Tryd.prog 19 #[.agg #[.int .i64 2, .int .u64 0, .slice a n cap], .agg #[.string ⟨#[97]⟩, .int .i64 1]] w fun e w' =>
    ∃ a cap M, e = .returned (.tuple #[.agg #[.int .i64 2, .int .u64 0, .slice a 4 cap], .int .i64 0]) ∧ RdI M (.slice a 4 cap) w' ∧ One4 M ∧ Below w.heap.size w w' := by
  have h := lins_any ⟨2, 0, [0, 0, 0, 0]⟩ _ ⟨#[97]⟩ 1 w ⟨by decide, by decide⟩ (RdL.of hR) (by decide) (by decide) (by decide)
  have h2 : itemE (byt ⟨#[97]⟩) 1 = 0 := by decide +kernel
  have e1 : llIns ⟨2, 0, [0, 0, 0, 0]⟩ ⟨#[97]⟩ 1 = ⟨2, 0, [0, 0, 0, 0].set (regI 2 0 ⟨#[97]⟩) (max (([0, 0, 0, 0] : List Int).getD (regI 2 0 ⟨#[97]⟩) 0) (rnkI 2 0 ⟨#[97]⟩))⟩ := by
    unfold llIns
    rw [if_neg (by simp [k_e4]), if_neg (by simp [h2])]
  have e2 : llInsE ⟨2, 0, [0, 0, 0, 0]⟩ ⟨#[97]⟩ 1 = 0 := by
    unfold llInsE
    rw [if_neg (by simp [k_e4]), h2]
  have hi := regI_lt (P := 2) (x := 0) (k := ⟨#[97]⟩) (by decide)
  have hr := rnkI_bd (P := 2) (x := 0) (k := ⟨#[97]⟩) (by decide)
  rw [show llN 2 = 4 by decide] at hi
  rw [e1, e2] at h
  have HO := one4_set hi hr.1 (by omega)
  refine h.mono ?_
  rintro e w' ⟨v, rfl, ⟨a, n, cap, rfl, ho⟩, hb⟩
  obtain ⟨a1, c1, he⟩ := ho.rd.shape
  simp only [Value.slice.injEq] at he
  have hn : n = 4 := by rw [he.2.1]; simp
  subst hn
  exact ⟨a, cap, _, rfl, ho.rd, HO, hb⟩
/-- How many of the first k numbers are not 0. -/
def nzc (M : List Int) : Nat → Int
  | 0 => 0
  | k + 1 => if (M.getD k 0 != 0) = true then nzc M k + 1 else nzc M k
theorem nzc_bd (M : List Int) : ∀ k, 0 ≤ nzc M k ∧ nzc M k ≤ (k : Int)
  | 0 => by simp [nzc]
  | k + 1 => by
    have := nzc_bd M k
    unfold nzc
    split <;> omega
theorem one4_nzc {M : List Int} (h : One4 M) : nzc M 4 = 1 ∧ M.length = 4 := by
  obtain ⟨r, hr, h | h | h | h⟩ := h
  all_goals
    subst h
    have h0 : (r != 0) = true := by simp; omega
    refine ⟨?_, rfl⟩
    simp [nzc, h0]
set_option maxRecDepth 100000 in
set_option maxHeartbeats 1000000 in
theorem known_any (w : World) (ht : TabF w) : Calls Tryd.prog 10 #[] w fun e w' => e = .returned (.bool true) ∧ Below w.heap.size w w' := by
  have HT := Lib.hid ht
  clear ht
  go_enter Tryd.func10, Tryd.ntmps10
  go_wp2_with (first
    | (go_at_call 11; refine (k_new _).mono ?_; rintro e w2 ⟨a2, n2, c2, rfl, hr2, hb2⟩; have R2 := Lib.hid hr2; have B2 := Lib.hid hb2; clear hr2 hb2)
    | (go_at_call 25; refine (k_est _ _ _ _ (R2.out.below (b1 _)) (HT.out.below (bal B2.out _))).mono ?_; rintro e w3 ⟨rfl, hb3⟩; have R3 := Lib.hid ((R2.out.below (b1 (.cells #[.int .i64 2, .int .u64 0, .slice a2 n2 c2] 26))).below hb3); have S3 := Lib.hid ((LSt.new 2 0 (.slice a2 n2 c2) 26 w2).below hb3 (by simp)); have B3 := Lib.hid (bgo (bal B2.out _) hb3); obtain ⟨⟨p0, p1, p2⟩, -⟩ := S3.out; clear hb3)
    | (go_at_call 19; refine (k_ins _ _ _ _ R3.out).mono ?_; rintro e w4 ⟨a4, c4, M, rfl, hr4, hM, hb4⟩; have R4 := Lib.hid hr4; have HM := Lib.hid hM; have B4 := Lib.hid (bgo B3.out hb4); clear hb4 hr4 hM p0 p1 p2))
  have hN := (one4_nzc HM.out).1
  have hl := (one4_nzc HM.out).2
  have HN := Lib.hid hN
  obtain ⟨b4, hb4⟩ : ∃ b off, a4 = some ⟨b, off, none⟩ ∧ ∀ k, k < 4 → (w4.alloc (.cells #[.int .i64 2, .int .u64 0, .slice a4 4 c4] 26)).cell? ⟨b, off + k, none⟩ = some (.int .i64 (M.getD k 0)) := by
    obtain ⟨_, a5, cap5, he5, _, _, hc5⟩ := R4.out.below (b1 (.cells #[.int .i64 2, .int .u64 0, .slice a4 4 c4] 26))
    simp only [Value.slice.injEq] at he5
    obtain ⟨rfl, _, rfl⟩ := he5
    obtain ⟨b, off, rfl, hb, hc⟩ := hc5 (by omega)
    exact ⟨b, off, rfl, fun k hk => hc k (by omega)⟩
  obtain ⟨off4, rfl, hcells⟩ := hb4
  have HC := Lib.hid hcells
  have hR := fun k => R4.out.at_ k
  have HRB := Lib.hid hR
  have HZ : Hid (∀ k, nzc M (k + 1) = if (M.getD k 0 != 0) = true then nzc M k + 1 else nzc M k) := Lib.hid (fun k => rfl)
  have HZB := Lib.hid (fun k => nzc_bd M k)
  clear hN hl hcells hR HM
  go_loop [7, 8] (fun c i => ∃ k : Nat, k ≤ 4 ∧ i = .int .i64 (k : Int) ∧ c = .int .i64 (nzc M k)) (fun _ i => 4 - (intOf i).toNat)
  case atStart => exact ⟨0, by omega, rfl, rfl⟩
  case round =>
    obtain ⟨k, hk, rfl, rfl⟩ := hrel
    have hzb := HZB.out k
    by_cases hlt : k < 4
    · have hc := HC.out k hlt
      have hz := HZ.out k
      have hkI : (k : Int) < 4 := by omega
      generalize hq : M.getD k 0 = q at *
      obtain ⟨bq, hbq⟩ : ∃ bq : Bool, (q != 0) = bq := ⟨_, rfl⟩
      rw [hbq] at hz
      have HZ1 := Lib.hid hz
      clear hq hz
      generalize nzc M k = n at *
      cases bq
      all_goals
        go_wp2
        go_round
        case rel => exact ⟨k + 1, by omega, by go_num, by rw [HZ1.out]; rfl⟩
        case measure => simp [intOf]; omega
    · obtain rfl : k = 4 := by omega
      rw [HN.out]
      go_wp2
      go_ret
      exact ⟨rfl, bal B4.out _⟩
end Go.Proofs.YtgnopnifdiipkaaDoor
