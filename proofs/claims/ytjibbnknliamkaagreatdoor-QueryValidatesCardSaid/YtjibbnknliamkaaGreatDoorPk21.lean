/- RFIns, RRkI, SameL, SkQ, RkZ: in one text. -/
import Derived.Test.YtjibbnknliamkaaGreatDoorPk05
import Derived.Test.YtjibbnknliamkaaGreatDoorPk00
import Derived.Test.YtjibbnknliamkaaGreatDoorPk16
import Derived.Test.YtjibbnknliamkaaGreatDoorPk07
import Derived.Test.YtjibbnknliamkaaGreatDoorPk11
import Derived.Test.YtjibbnknliamkaaGreatDoorPk08
import Derived.Test.YtjibbnknliamkaaGreatDoorPk01
import Derived.Test.YtjibbnknliamkaaGreatDoorPk10
import Derived.Test.YtjibbnknliamkaaGreatDoorProg
import Derived.Test.YtjibbnknliamkaaGreatDoorPk02
import Derived.Test.YtjibbnknliamkaaGreatDoorPk06
import Derived.Deep.RegionLaw
import Derived.OneCell
import Derived.WalkKit
import Derived.Lib.Hide
import Derived.ProofKit
import Derived.Handy
import Derived.Shelf.Small.Bits
import Derived.Shelf.Strconv.Itoa0
import Derived.Shelf.Bits.Mul64
import Derived.Shelf.Spec.TrailingZeros
import Derived.Lib.TrailingZeros
import Derived.Deep.RegionHeld3
import Derived.Laws.Cover3
import Derived.Laws.FloatArith
import Derived.Lib.SliceRun
import Derived.Deep.MidRow
import Derived.BigQuiet
import Derived.Shelf.Abstract
namespace Go.Proofs.YtjibbnknliamkaaGreatDoor
open Go.RowKit
set_option linter.unusedVariables false
set_option linter.unusedSimpArgs false
theorem rnewQ_any (S : Int) (w : World) (S0 : -9223372036854775808 ≤ S) (S1 : S ≤ 9223372036854775807) :
    Calls Tryz.prog 52 #[.int .i64 S] w fun e w' => ∃ v, e = .returned (.tuple #[v, .int .i64 (newQE S)]) ∧ OwnQ w.heap.size (newQ S) v w' ∧ Below w.heap.size w w' := by
  have hz := fun w => within_any S 1 32 w
  unfold newQE newQ
  by_cases hs : S < 1 ∨ 32 < S
  · rw [show (decide (1 ≤ S) && decide (S ≤ 32)) = false by rw [Bool.and_eq_false_iff]; simp; omega] at hz
    rw [if_pos hs, if_pos hs]
    clear hs
    go_enter Tryz.func52, Tryz.ntmps52
    go_wp2_with (go_at_call 87; refine (hz _).mono ?_; rintro e w' ⟨rfl, rfl⟩)
    refine bodyPost_ret (v := .tuple #[.agg #[.int .i64 0, .int .i64 0, .int .i64 0, .slice none 0 0, .bool false], .int .i64 5]) (by simp [results, Tryz.results52, go_sem, *]) rfl ⟨_, rfl, ⟨none, 0, 0, rfl, OwnE.empty _ _⟩, b1 _⟩
  · rw [show (decide (1 ≤ S) && decide (S ≤ 32)) = true by simp; omega] at hz
    rw [if_neg hs, if_neg hs]
    clear hs
    go_enter Tryz.func52, Tryz.ntmps52
    go_wp2_with (go_at_call 87; refine (hz _).mono ?_; rintro e w' ⟨rfl, rfl⟩)
    refine bodyPost_ret (v := .tuple #[.agg #[.int .i64 S, .int .i64 0, .int .i64 0, .slice none 0 0, .bool false], .int .i64 0]) (by simp [results, Tryz.results52, go_sem, *]) rfl ⟨_, rfl, ⟨none, 0, 0, rfl, OwnE.empty _ _⟩, b1 _⟩
end Go.Proofs.YtjibbnknliamkaaGreatDoor
namespace Go.Proofs.YtjibbnknliamkaaGreatDoor
open Go.RowKit
set_option linter.unusedVariables false
set_option linter.unusedSimpArgs false
set_option maxRecDepth 100000 in
theorem rnewR_any (S : Int) (w : World) (h0 : -9223372036854775808 ≤ S) (h1 : S ≤ 9223372036854775807) :
    Calls Tryz.prog 53 #[.int .i64 S] w fun e w' => ∃ v, e = .returned (.tuple #[v, .int .i64 (newRE S)]) ∧ RbR w.heap.size (newR S) v w' ∧ Below w.heap.size w w' := by
  have hz := fun w => rwithin_any S 2 32 w
  unfold newRE newR
  by_cases hw : 2 ≤ S ∧ S ≤ 32
  · have hm : Int.tmod S 2 = S % 2 := Int.tmod_eq_emod_of_nonneg (by omega)
    have hi : inW S 2 32 = true := by unfold inW; simp; omega
    rw [hi] at hz
    by_cases he : S % 2 = 0
    · have hs : szR S = true := (szR_iff S).2 ⟨hw.1, hw.2, he⟩
      rw [if_pos hs, if_pos hs]
      have he2 : ¬ S % 2 = 1 := by omega
      clear hs hi
      go_enter Tryz.func53, Tryz.ntmps53
      go_wp2_with (go_at_call 87; refine (hz _).mono ?_; rintro e w' ⟨rfl, rfl⟩)
      refine bodyPost_ret (v := .tuple #[.agg #[.int .i64 S, .int .i64 0, .int .i64 0, .slice none 0 0, .bool false], .int .i64 0]) (by simp [results, Tryz.results53, go_sem, *]) rfl ⟨_, rfl, ⟨none, 0, 0, rfl, RdB.none_ _ _⟩, b1 _⟩
    · have hs : ¬ szR S = true := fun h => he ((szR_iff S).1 h).2.2
      rw [if_neg hs, if_neg hs]
      have he2 : S % 2 = 1 := by omega
      clear hs hi
      go_enter Tryz.func53, Tryz.ntmps53
      go_wp2_with (go_at_call 87; refine (hz _).mono ?_; rintro e w' ⟨rfl, rfl⟩)
      refine bodyPost_ret (v := .tuple #[.agg #[.int .i64 0, .int .i64 0, .int .i64 0, .slice none 0 0, .bool false], .int .i64 5]) (by simp [results, Tryz.results53, go_sem, *]) rfl ⟨_, rfl, ⟨none, 0, 0, rfl, RdB.none_ _ _⟩, b1 _⟩
  · have hs : ¬ szR S = true := fun h => hw ⟨((szR_iff S).1 h).1, ((szR_iff S).1 h).2.1⟩
    have hi : inW S 2 32 = false := by unfold inW; simp; omega
    rw [hi] at hz
    rw [if_neg hs, if_neg hs]
    clear hs hi
    go_enter Tryz.func53, Tryz.ntmps53
    go_wp2_with (go_at_call 87; refine (hz _).mono ?_; rintro e w' ⟨rfl, rfl⟩)
    refine bodyPost_ret (v := .tuple #[.agg #[.int .i64 0, .int .i64 0, .int .i64 0, .slice none 0 0, .bool false], .int .i64 5]) (by simp [results, Tryz.results53, go_sem, *]) rfl ⟨_, rfl, ⟨none, 0, 0, rfl, RdB.none_ _ _⟩, b1 _⟩
section
variable {W : World} {B : Nat} {D : List (List ByteArray)} {us : List Value} {v : Value} {PI : List Int} {vp : Value} {w w' : World}
end
end Go.Proofs.YtjibbnknliamkaaGreatDoor
namespace Go.Proofs.YtjibbnknliamkaaGreatDoor
open Go.RowKit
set_option linter.unusedVariables false
set_option linter.unusedSimpArgs false
set_option maxRecDepth 100000 in
theorem sameL_any (c : LL) (v u : Value) (w : World) (hv : RdL c v w) (hu : RdL c u w) :
    Calls Tryz.prog 123 #[v, u] w fun e w' => e = .returned (.bool true) ∧ Below w.heap.size w w' := by
  obtain ⟨P, x, L⟩ := c
  obtain ⟨a, n, cap, rfl, hR⟩ := hv
  obtain ⟨a2, n2, cap2, rfl, hR2⟩ := hu
  dsimp only at hR hR2 ⊢
  have hs := sameI_any L (.slice a n cap) (.slice a2 n2 cap2) ((w.alloc (.cells #[.int .i64 P, .int .u64 x, .slice a n cap] 38)).alloc (.cells #[.int .i64 P, .int .u64 x, .slice a2 n2 cap2] 38)) (hR.below (b2 _ _)) (hR2.below (b2 _ _))
  clear hR hR2
  go_enter Tryz.func123, Tryz.ntmps123
  go_wp2_with (go_at_call 45; refine hs.mono ?_; rintro e w2 ⟨rfl, hb2⟩; have B2 := Lib.hid (bgo (b2 _ _) hb2); clear hb2)
  go_ret
  exact ⟨rfl, B2.out⟩
end Go.Proofs.YtjibbnknliamkaaGreatDoor
namespace Go.Proofs.YtjibbnknliamkaaGreatDoor
open Go.RowKit
set_option linter.unusedVariables false
set_option linter.unusedSimpArgs false
set_option maxRecDepth 100000 in
theorem sameQ_any (t : FQ) (v u : Value) (w : World) (hv : RdQ t v w) (hu : RdQ t u w) (hn : t.L.length ≤ 549755813888) :
    Calls Tryz.prog 125 #[v, u] w fun e w' => e = .returned (.bool true) ∧ Below w.heap.size w w' := by
  obtain ⟨S, T, K, L, s⟩ := t
  obtain ⟨a, n, cap, rfl, hR⟩ := hv
  obtain ⟨a2, n2, cap2, rfl, hR2⟩ := hu
  dsimp only at hR hR2 hn ⊢
  have hs := Lib.hid (sameE_any L (.slice a n cap) (.slice a2 n2 cap2) ((w.alloc (.cells #[.int .i64 S, .int .i64 T, .int .i64 K, .slice a n cap, .bool s] 43)).alloc (.cells #[.int .i64 S, .int .i64 T, .int .i64 K, .slice a2 n2 cap2, .bool s] 43)) (hR.below (b2 _ _)) (hR2.below (b2 _ _)) hn)
  clear hR hR2
  go_enter Tryz.func125, Tryz.ntmps125
  go_wp2_with (go_at_call 20; refine hs.out.mono ?_; rintro e w2 ⟨rfl, hb2⟩; have B2 := Lib.hid (bgo (b2 _ _) hb2); clear hb2)
  go_ret
  exact ⟨rfl, B2.out⟩
theorem OwnE.lone {B : Nat} {x : Ent} {a : Option Addr} {n c : Nat} {w : World} (h : OwnE B [x] (.slice a n c) w) : ∃ g, a = some ⟨g, 0, none⟩ ∧ n = 1 ∧ At3 x g 0 w ∧ g < w.heap.size := by
  obtain ⟨g, rfl, -, hg, hn, -, -⟩ := h.block (by simp)
  obtain rfl : n = 1 := hn
  have := h.cellsAt (j := 0) (by simp)
  exact ⟨g, rfl, rfl, this, hg⟩
end Go.Proofs.YtjibbnknliamkaaGreatDoor
namespace Go.Proofs.YtjibbnknliamkaaGreatDoor
open Go.RowKit
set_option linter.unusedVariables false
set_option linter.unusedSimpArgs false
set_option maxRecDepth 100000 in
set_option maxHeartbeats 2000000 in
theorem sameR_any (t : RK) (v u : Value) (w : World) (hv : RdR t v w) (hu : RdR t u w) (hok : LOk t.L) :
    Calls Tryz.prog 126 #[v, u] w fun e w' => e = .returned (.bool true) ∧ Below w.heap.size w w' := by
  obtain ⟨S, T, K, L, s⟩ := t
  obtain ⟨aA, cA, rfl, hr⟩ := hv.run
  obtain ⟨aB, cB, rfl, hr2⟩ := hu.run
  dsimp only at hr hr2 hok ⊢
  have HR := Lib.hid hr
  have HU := Lib.hid hr2
  have HO := Lib.hid hok
  have hL := hok.1
  clear hr hr2 hv hu hok
  go_enter Tryz.func126, Tryz.ntmps126
  go_wp2
  obtain ⟨W0, hW0⟩ : ∃ W0, (w.alloc (.cells #[.int .i64 S, .int .i64 T, .int .i64 K, .slice aA L.length cA, .bool s] 46)).alloc (.cells #[.int .i64 S, .int .i64 T, .int .i64 K, .slice aB L.length cB, .bool s] 46) = W0 := ⟨_, rfl⟩
  have HA : Hid (W0.cell? ⟨w.heap.size, 3, none⟩ = some (.slice aA L.length cA)) := Lib.hid (by rw [← hW0]; exact ((RsS.new S T K (.slice aA L.length cA) s 46 w).go (b1 _)).1.2.2.2.1)
  have HB : Hid (W0.cell? ⟨w.heap.size + 1, 3, none⟩ = some (.slice aB L.length cB)) := Lib.hid (by
    have h := RsS.new S T K (.slice aB L.length cB) s 46 (w.alloc (.cells #[.int .i64 S, .int .i64 T, .int .i64 K, .slice aA L.length cA, .bool s] 46))
    rw [hW0, show (w.alloc (.cells #[.int .i64 S, .int .i64 T, .int .i64 K, .slice aA L.length cA, .bool s] 46)).heap.size = w.heap.size + 1 by simp] at h
    exact h.1.2.2.2.1)
  have HB0 : Hid (Below w.heap.size w W0) := Lib.hid (by rw [← hW0]; exact b2 _ _)
  have HS0 : Hid (w.heap.size + 1 < W0.heap.size) := Lib.hid (by rw [← hW0]; simp)
  rw [hW0]
  clear hW0
  go_loopw [5] (fun i wr => ∃ j : Nat, j ≤ L.length ∧ i = .int .i64 (j : Int) ∧ Hid (Below W0.heap.size W0 wr)) (fun i _ => L.length - (intOf i).toNat)
  case atStart => exact ⟨0, by omega, rfl, Lib.hid (Below.refl _ _)⟩
  case round =>
    obtain ⟨j, hj, rfl, HI⟩ := hrel
    have hs0 := HS0.out
    have ha := ((bcell HI.out).1 w.heap.size 3 (by omega)).trans HA.out
    have hb := ((bcell HI.out).1 (w.heap.size + 1) 3 (by omega)).trans HB.out
    by_cases hlt : j < L.length
    · have hlt2 : (j : Int) < (L.length : Int) := by omega
      have HBW := Lib.hid (bgo HB0.out HI.out)
      obtain ⟨b1', o1, u1, m1, k1, rfl, -, hb1, hc1, hr1, hm1⟩ := (HR.out.below HBW.out).at_ hlt
      obtain ⟨b2', o2, u2, m2, k2, rfl, -, hb2, hc2, hr2, hm2⟩ := (HU.out.below HBW.out).at_ hlt
      have hl := (HO.out.at_ j).1
      subst hm1
      subst hm2
      generalize L.getD j [] = l at *
      have HR1 := Lib.hid hr1
      have HR2 := Lib.hid hr2
      clear hr1 hr2
      go_wp2
      go_quiet (fail)
      go_wp2
      have HC := Lib.hid (And.intro ha (And.intro hb (And.intro hc1 hc2)))
      have HLT : Hid ((w.heap.size < wr.heap.size ∧ w.heap.size + 1 < wr.heap.size) ∧ b1' < wr.heap.size ∧ b2' < wr.heap.size) := Lib.hid ⟨⟨by have := HI.out.size; omega, by have := HI.out.size; omega⟩, hb1, hb2⟩
      clear ha hb hc1 hc2
      go_loopw [6] (fun i wr2 => ∃ k : Nat, k ≤ l.length ∧ i = .int .i64 (k : Int) ∧ Hid (Below wr.heap.size wr wr2)) (fun i _ => l.length - (intOf i).toNat)
      case atStart => exact ⟨0, by omega, rfl, Lib.hid (below_drewN (Below.refl _ _) _)⟩
      case round =>
        obtain ⟨k, hk, rfl, HI2⟩ := hrel
        have ha := ((bcell HI2.out).1 w.heap.size 3 HLT.out.1.1).trans HC.out.1
        have hb := ((bcell HI2.out).1 (w.heap.size + 1) 3 HLT.out.1.2).trans HC.out.2.1
        have hc1 := ((bcell HI2.out).1 b1' (o1 + j) HLT.out.2.1).trans HC.out.2.2.1
        have hc2 := ((bcell HI2.out).1 b2' (o2 + j) HLT.out.2.2).trans HC.out.2.2.2
        by_cases hlk : k < l.length
        · have hlk2 : (k : Int) < (l.length : Int) := by omega
          obtain ⟨b3, o3, rfl, -, hd1⟩ := (HR1.out.below HI2.out).cell hlk
          obtain ⟨b4, o4, rfl, -, hd2⟩ := (HR2.out.below HI2.out).cell hlk
          generalize l.getD k ByteArray.empty = x at *
          go_wp2
          go_quiet (fail)
          go_wp2
          exact ⟨⟨k + 1, by omega, by go_num, Lib.hid (below_drewN HI2.out _)⟩, by simp [intOf]; omega⟩
        · obtain rfl : k = l.length := by omega
          go_wp2
          exact ⟨⟨j + 1, by omega, by go_num, Lib.hid (bgo HI.out HI2.out)⟩, by simp [intOf]; omega⟩
    · obtain rfl : j = L.length := by omega
      go_wp2
      go_ret
      exact ⟨rfl, bgo HB0.out HI.out⟩
section
variable {B g : Nat} {c d : RK} {v u : Value} {w w' : World}
end
section
variable {W : World} {B g : Nat} {c d : RK} {v u : Value} {w w' : World}
end
section
variable {W : World} {B g k : Nat} {c d e : RK} {v u : Value} {w w' : World}
end
end Go.Proofs.YtjibbnknliamkaaGreatDoor
