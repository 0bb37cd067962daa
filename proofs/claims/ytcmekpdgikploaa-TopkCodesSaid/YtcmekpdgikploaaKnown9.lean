/- The contract of sketchstorelaw9.known. -/
import Derived.Test.YtcmekpdgikploaaPIns
import Derived.Test.YtcmekpdgikploaaSame9
import Derived.Test.YtcmekpdgikploaaFind9
namespace Go.Proofs.Ytcmekpdgikploaa
open Go.RowKit
set_option linter.unusedVariables false
set_option linter.unusedSimpArgs false
theorem sameAB : sameK ⟨#[97]⟩ ⟨#[98]⟩ = false := by
  unfold sameK
  rw [Lib.toList_data, Lib.toList_data]
  rfl
theorem sameBA : sameK ⟨#[98]⟩ ⟨#[97]⟩ = false := by rw [sameK_comm]; exact sameAB
theorem v1_ : valE 1 0 [] = 0 := by kernel_rfl
theorem v2_ : valE 1 2 [⟨⟨#[97]⟩, 2, 0⟩] = 0 := by kernel_rfl
theorem v3_ : valE 1 3 [⟨⟨#[98]⟩, 3, 2⟩] = 0 := by kernel_rfl
theorem i1_ : itemE (byt ⟨#[97]⟩) 2 = 0 := by decide +kernel
theorem i2_ : itemE (byt ⟨#[98]⟩) 1 = 0 := by decide +kernel
theorem k1_ : insTop ⟨1, 0, [], false⟩ ⟨#[97]⟩ 2 = ⟨1, 2, [⟨⟨#[97]⟩, 2, 0⟩], false⟩ := by
  unfold insTop
  dsimp only
  rw [v1_, if_neg (by decide), i1_, if_neg (by decide)]
  kernel_rfl
theorem k2_ : insTop ⟨1, 2, [⟨⟨#[97]⟩, 2, 0⟩], false⟩ ⟨#[98]⟩ 1 = ⟨1, 3, [⟨⟨#[98]⟩, 3, 2⟩], false⟩ := by
  have hh : hasK [⟨⟨#[97]⟩, 2, 0⟩] ⟨#[98]⟩ = false := by simp [hasK, sameAB]
  unfold insTop
  dsimp only
  rw [v2_, if_neg (by decide), i2_, if_neg (by decide)]
  have ha : insA 1 [⟨⟨#[97]⟩, 2, 0⟩] ⟨#[98]⟩ 1 = [⟨⟨#[98]⟩, 3, 2⟩] := by
    unfold insA
    rw [hh, if_neg Bool.false_ne_true]
    kernel_rfl
  have hf : insF 1 [⟨⟨#[97]⟩, 2, 0⟩] ⟨#[98]⟩ 1 = false := by
    unfold insF
    rw [hh, if_neg Bool.false_ne_true]
    kernel_rfl
  have h3 : tS 2 1 = 3 := by kernel_rfl
  have h4 : (false || false || tF 2 1) = false := by kernel_rfl
  have h5 : sortE [⟨⟨#[98]⟩, 3, 2⟩] = [⟨⟨#[98]⟩, 3, 2⟩] := by kernel_rfl
  rw [ha, hf, h3, h4, h5]
theorem k3_ : findX 1 3 [⟨⟨#[98]⟩, 3, 2⟩] ⟨#[97]⟩ = ⟨⟨#[97]⟩, 3, 3⟩ ∧ findB 1 3 [⟨⟨#[98]⟩, 3, 2⟩] ⟨#[97]⟩ = false ∧ findE 1 3 [⟨⟨#[98]⟩, 3, 2⟩] ⟨#[97]⟩ = 0 := by
  have hh : hasK [⟨⟨#[98]⟩, 3, 2⟩] ⟨#[97]⟩ = false := by simp [hasK, sameBA]
  have e0 : findE 1 3 [⟨⟨#[98]⟩, 3, 2⟩] ⟨#[97]⟩ = 0 := by
    unfold findE
    rw [v3_, if_neg (by decide)]
    kernel_rfl
  unfold findX findB
  rw [e0, if_neg (by decide), if_neg (by decide), hh]
  refine ⟨?_, rfl, rfl⟩
  unfold entAt
  rw [hh, if_neg (by simp)]
  kernel_rfl
theorem n1_ : newT 1 = ⟨1, 0, [], false⟩ ∧ newTE 1 = 0 := ⟨by kernel_rfl, by kernel_rfl⟩
theorem z1_ : insE ⟨1, 0, [], false⟩ ⟨#[97]⟩ 2 = 0 := by
  unfold insE
  dsimp only
  rw [v1_, if_neg (by decide), i1_]
theorem z2_ : insE ⟨1, 2, [⟨⟨#[97]⟩, 2, 0⟩], false⟩ ⟨#[98]⟩ 1 = 0 := by
  unfold insE
  dsimp only
  rw [v2_, if_neg (by decide), i2_]
theorem c1_ (w : World) : Calls Try.prog 14 #[.int .i64 1] w fun e w' => ∃ a n c, e = .returned (.tuple #[.agg #[.int .i64 1, .int .i64 0, .slice a n c, .bool false], .int .i64 0]) ∧ OwnE w.heap.size [] (.slice a n c) w' ∧ Below w.heap.size w w' :=
  (pnew_any 1 w (by decide) (by decide)).mono fun e w' ⟨v, h1, h2, h3⟩ => by
    rw [n1_.2] at h1
    rw [n1_.1] at h2
    obtain ⟨a, n, c, rfl, h4⟩ := h2
    exact ⟨a, n, c, h1, h4, h3⟩
theorem c2_ (a : Option Addr) (n c : Nat) (w : World) (h : RdE [] (.slice a n c) w) : Calls Try.prog 12 #[.agg #[.int .i64 1, .int .i64 0, .slice a n c, .bool false], .agg #[.string ⟨#[97]⟩, .int .i64 2]] w fun e w' =>
      ∃ a n c, e = .returned (.tuple #[.agg #[.int .i64 1, .int .i64 2, .slice a n c, .bool false], .int .i64 0]) ∧ OwnE w.heap.size [⟨⟨#[97]⟩, 2, 0⟩] (.slice a n c) w' ∧ Below w.heap.size w w' :=
  (pins_any 1 0 2 [] false ⟨#[97]⟩ a n c w (by decide) (by decide) (by decide) (by decide) (by decide) (by decide) (by decide) h (by decide)).mono fun e w' ⟨v, h1, h2, h3⟩ => by
    rw [z1_] at h1
    rw [k1_] at h2
    obtain ⟨a, n, c, rfl, h4⟩ := h2
    exact ⟨a, n, c, h1, h4, h3⟩
theorem c3_ (a : Option Addr) (n c : Nat) (w : World) (h : RdE [⟨⟨#[97]⟩, 2, 0⟩] (.slice a n c) w) : Calls Try.prog 12 #[.agg #[.int .i64 1, .int .i64 2, .slice a n c, .bool false], .agg #[.string ⟨#[98]⟩, .int .i64 1]] w fun e w' =>
      ∃ g c, e = .returned (.tuple #[.agg #[.int .i64 1, .int .i64 3, .slice (some ⟨g, 0, none⟩) 1 c, .bool false], .int .i64 0]) ∧ RdE [⟨⟨#[98]⟩, 3, 2⟩] (.slice (some ⟨g, 0, none⟩) 1 c) w' ∧ (g < w'.heap.size ∧ At3 ⟨⟨#[98]⟩, 3, 2⟩ g 0 w') ∧ Below w.heap.size w w' :=
  (pins_any 1 2 1 [⟨⟨#[97]⟩, 2, 0⟩] false ⟨#[98]⟩ a n c w (by decide) (by decide) (by decide) (by decide) (by decide) (by decide) (by decide) h (by decide)).mono fun e w' ⟨v, h1, h2, h3⟩ => by
    rw [z2_] at h1
    rw [k2_] at h2
    obtain ⟨a, n, c, rfl, h4⟩ := h2
    obtain ⟨g, rfl, _, hg, hn, _, _⟩ := h4.block (by decide)
    have hn1 : n = 1 := hn
    subst hn1
    exact ⟨g, c, h1, h4.rd, ⟨hg, by have := h4.cellsAt (j := 0) (by decide); simpa using this⟩, h3⟩
theorem c4_ (a : Option Addr) (n c : Nat) (w : World) (h : RdE [⟨⟨#[98]⟩, 3, 2⟩] (.slice a n c) w) : Calls Try.prog 27 #[.agg #[.int .i64 1, .int .i64 3, .slice a n c, .bool false], .string ⟨#[97]⟩] w fun e w' =>
      e = .returned (.tuple #[.agg #[.string ⟨#[97]⟩, .int .i64 3, .int .i64 3], .bool false, .int .i64 0]) ∧ Below w.heap.size w w' :=
  (pfind_any 1 3 [⟨⟨#[98]⟩, 3, 2⟩] false ⟨#[97]⟩ a n c w (by decide) (by decide) (by decide) (by decide) (by decide) h (by decide)).mono fun e w' ⟨h1, h2⟩ => by
    rw [k3_.1, k3_.2.1, k3_.2.2] at h1
    exact ⟨h1, h2⟩
set_option maxRecDepth 100000 in
set_option maxHeartbeats 1000000 in
theorem known_any (w : World) : Calls Try.prog 19 #[] w fun e w' => e = .returned (.bool true) ∧ Below w.heap.size w w' := by
  go_enter Try.func19, Try.ntmps19
  go_wp2_with (first
    | (go_at_call 14; refine (c1_ _).mono ?_; rintro e w2 ⟨a2, n2, k2, rfl, ho2, hb2⟩; have HO2 := Lib.hid ho2; have B2 := Lib.hid hb2; clear ho2 hb2)
    | (go_at_call 12; (with_reducible refine (c3_ _ _ _ _ (RdE.below HO3.out.rd (b1 _))).mono ?_); rintro e w4 ⟨g4, k4, rfl, hr4, ⟨hg4, y0, y1, y2⟩, hb4⟩; have HR4 := Lib.hid hr4; have HG4 := Lib.hid hg4; have B4 := Lib.hid (bgo (bal B3.out _) hb4); clear hr4 hg4 hb4)
    | (go_at_call 12; (with_reducible refine (c2_ _ _ _ _ (RdE.below HO2.out.rd (b1 _))).mono ?_); rintro e w3 ⟨a3, n3, k3, rfl, ho3, hb3⟩; have HO3 := Lib.hid ho3; have B3 := Lib.hid (bgo (bal B2.out _) hb3); clear ho3 hb3))
  have HAT : At3 ⟨⟨#[98]⟩, 3, 2⟩ g4 0 w4 := ⟨y0, y1, y2⟩
  have T4 := TopS.new 1 3 (.slice (some ⟨g4, 0, none⟩) 1 k4) false 25 w4
  have HA5 := HAT.below (b1 (.cells #[.int .i64 1, .int .i64 3, .slice (some ⟨g4, 0, none⟩) 1 k4, .bool false] 25)) HG4.out
  have hg5 : g4 < (w4.alloc (.cells #[.int .i64 1, .int .i64 3, .slice (some ⟨g4, 0, none⟩) 1 k4, .bool false] 25)).heap.size := Nat.lt_of_lt_of_le HG4.out (b1 _).size
  refine (c4_ _ _ _ _ (RdE.below HR4.out (b1 _))).mono ?_
  rintro e w5 ⟨rfl, hb5⟩
  obtain ⟨z0, z1, z2⟩ := HA5.below hb5 hg5
  obtain ⟨⟨t0, t1, t2, t3⟩, -⟩ := T4.below hb5 T4.lt
  have B5 := Lib.hid (bgo (bal B4.out _) hb5)
  have HG5 : g4 < w5.heap.size := Nat.lt_of_lt_of_le hg5 hb5.size
  have HT5 : w4.heap.size < w5.heap.size := Nat.lt_of_lt_of_le (by simp) hb5.size
  have f0 := (At3.below ⟨z0, z1, z2⟩ (b1 (.cells #[.string ⟨#[97]⟩, .int .i64 3, .int .i64 3] 49)) HG5)
  obtain ⟨f0, f1, f2⟩ := f0
  clear y0 y1 y2 hb5 HAT HA5 T4 hg5
  go_wp2
  go_ret
  exact ⟨rfl, bal B5.out _⟩
end Go.Proofs.Ytcmekpdgikploaa
