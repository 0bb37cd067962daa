/- The contract of slices.Sort over strings of the call's own. -/
import Derived.Test.YtpehbfghajlgmaaGreatSrtK
import Derived.Test.YtpehbfghajlgmaaGreatLev
import Derived.Test.YtpehbfghajlgmaaGreatShelf
import Derived.Sort.OwnSorted
import Derived.Sort.Walk0
namespace Go.Proofs.YtpehbfghajlgmaaGreat
open Go.RowKit Go.Sort
set_option linter.unusedVariables false
set_option linter.unusedSimpArgs false
def bl (s : ByteArray) : List UInt8 := s.data.toList
def mkB (l : List UInt8) : ByteArray := ⟨l.toArray⟩
theorem mk_bl (s : ByteArray) : mkB (bl s) = s := by cases s; simp [mkB, bl]
theorem mkB_inj {a b : List UInt8} (h : mkB a = mkB b) : a = b := by
  simp only [mkB, ByteArray.mk.injEq] at h
  simpa using h
theorem less_mk (a b : List UInt8) : lessK (mkB a) (mkB b) = decide (a < b) := by
  unfold lessK
  rw [Lib.toList_data, Lib.toList_data, bytesLess_eq, decide_eq_decide]
  simp [mkB]
theorem cells_enc (ss : List (List UInt8)) : cellsS (ss.map mkB) = ss.map encStr := by
  simp only [cellsS, List.map_map]
  rfl
theorem merge_sortK (ss : List (List UInt8)) : (ss.mergeSort fun x y => decide (x ≤ y)).map mkB = sortK (ss.map mkB) := by
  refine asc_uniq ?_ (sortK_sorted _) ?_
  · have h := List.pairwise_mergeSort (le := fun x y : List UInt8 => decide (x ≤ y)) (fun a b c h1 h2 => by simpa using List.le_trans (by simpa using h1) (by simpa using h2)) (fun a b => by simpa using List.le_total a b) ss
    refine List.Pairwise.map mkB (fun a b hab => ?_) h
    rw [less_mk]
    simpa using hab
  · exact ((List.mergeSort_perm ss _).map mkB).trans (sortK_perm _).symm
theorem map_mk (L : List ByteArray) : (L.map bl).map mkB = L := by
  rw [List.map_map]
  conv => rhs; rw [← List.map_id L]
  exact List.map_congr_left (fun s _ => mk_bl s)
theorem sortS_any (L : List ByteArray) (B : Nat) (v : Value) (w : World) (h : OwnS B L v w) (hn : L.length ≤ 1099511627776) :
    Calls Tryz.prog 35 #[v] w fun e w' => e = .returned (.tuple #[]) ∧ OwnS B (sortK L) v w' ∧ Lone v w w' ∧ Below B w w' := by
  have hlt := fun g hg => h.lt (g := g) hg
  rcases h.2 with ⟨rfl, hz⟩ | ⟨g, cap, cur, rfl, hbase, hb, h1, h2, h3, h4⟩
  · obtain rfl : L = [] := List.eq_nil_of_length_eq_zero hz
    refine (Tryz.slices_Sort_string_none none 0 w).mono ?_
    rintro e w' ⟨rfl, rfl⟩
    exact ⟨rfl, h, Lone.of (Below.refl _ _), Below.refl _ _⟩
  · by_cases h0 : L.length = 0
    · obtain rfl : L = [] := List.eq_nil_of_length_eq_zero h0
      refine (Tryz.slices_Sort_string_none (some ⟨g, 0, none⟩) cap w).mono ?_
      rintro e w' ⟨rfl, rfl⟩
      exact ⟨rfl, h, Lone.of (Below.refl _ _), Below.refl _ _⟩
    · obtain ⟨ss, hss⟩ : ∃ ss : List (List UInt8), L = ss.map mkB := ⟨L.map bl, (map_mk L).symm⟩
      subst hss
      have hl : (ss.map mkB).length = ss.length := by simp
      rw [hl] at h1 hn h0
      rw [cells_enc, Nat.mul_one, hl] at h4
      rw [hl]
      have hg := (hlt g rfl).2
      refine (Tryz.slices_Sort_string g 0 cap ss w (holds_of_block hb h4) hg (by omega)).mono ?_
      rintro e w' ⟨rfl, n, os, rfl⟩
      have hgr := grownBy_sorted (w := w) (g := g) (n := n) (os := os) (ss.mergeSort fun x y => decide (x ≤ y)).toArray
      refine ⟨rfl, ?_, Lone.grown hgr, (Below.refl B w).grown hgr (by omega) (fun k hk => by cases hk; exact hbase)⟩
      have ho := ownsRow_sorted (n := n) (os := os) (ss := ss) (ts := ss.mergeSort fun x y => decide (x ≤ y)) (by simp) hbase hb h1 h2 h3
      unfold OwnS
      rw [← merge_sortK, cells_enc]
      simpa using ho
end Go.Proofs.YtpehbfghajlgmaaGreat
