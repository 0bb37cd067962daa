/- The contracts of bytes.Equal, pages.Shared, of the reference's Shared and of the law's same. -/
import Derived.Test.YtbppdbfjhdhehaaPgJ
import Derived.Test.YtbppdbfjhdhehaaBoR
import Derived.RegionTactic
import Derived.Deep.RegionWith
import Derived.Deep.RegionHeld3
import Derived.StillTailTactics
namespace Go.Proofs.Ytbppdbfjhdhehaa
open Go.RowKit
set_option linter.unusedVariables false
set_option linter.unusedSimpArgs false
/-- Equal bytes. -/
def eqB (L M : List Int) : Bool := decide (L = M)
theorem eqB_self (L : List Int) : eqB L L = true := decide_eq_true rfl
theorem str_eqB {L M : List Int} (hL : Byt L) (hM : Byt M) : ((strOfNums L).toList == (strOfNums M).toList) = eqB L M := by
  rw [Lib.toList_data, Lib.toList_data]
  unfold eqB
  by_cases h : L = M
  · subst h
    simp
  · rw [decide_eq_false h, beq_eq_false_iff_ne]
    intro e
    refine h ?_
    have : strOfNums L = strOfNums M := ByteArray.ext (Array.toList_inj.1 e)
    rw [← byt_str hL, ← byt_str hM, this]
theorem Rd.convN {L : List Int} {v : Value} {w : World} (h : Rd L v w) (n : Nat) : (convert 22 9 v).run Try.prog (w.drewN n) = .ok (.string (strOfNums L)) (w.drewN n) := Rd.conv (w := w.drewN n) h
theorem bequal_any (L M : List Int) (v u : Value) (w : World) (h : Rd L v w) (h2 : Rd M u w) :
    Calls Try.prog 23 #[v, u] w fun e w' => e = .returned (.bool (eqB L M)) ∧ w = w' := by
  have c1 := h.conv
  have c2 := h2.conv
  have he := str_eqB h.1 h2.1
  clear h h2
  generalize eqB L M = q at *
  generalize strOfNums L = s at *
  generalize strOfNums M = t at *
  go_enter Try.func23, Try.ntmps23
  go_wp2
  go_ret
  exact ⟨rfl, rfl⟩
/-- Which page is shared. -/
def shB (X Y : List (List Int)) (j : Nat) : Bool := decide (j < X.length) && eqB (X.getD j []) (Y.getD j [])
def shL (X Y : List (List Int)) : List Bool := (List.range Y.length).map (shB X Y)
/-- .. the first k of them said. -/
def shK (X Y : List (List Int)) (N k : Nat) : List Bool := (List.range k).map (shB X Y) ++ List.replicate (N - k) false
theorem shL_len (X Y : List (List Int)) : (shL X Y).length = Y.length := by simp [shL]
theorem shL_at {X Y : List (List Int)} {j : Nat} (h : j < Y.length) : (shL X Y).getD j false = shB X Y j := by simp [shL, List.getD, h]
theorem shL_self (Y : List (List Int)) : shL Y Y = List.replicate Y.length true := by
  unfold shL
  rw [List.eq_replicate_iff]
  refine ⟨by simp, fun b hb => ?_⟩
  obtain ⟨j, hj, rfl⟩ := List.mem_map.1 hb
  rw [List.mem_range] at hj
  unfold shB
  rw [decide_eq_true hj, eqB_self]
  rfl
theorem shK_len {X Y : List (List Int)} {N k : Nat} (h : k ≤ N) : (shK X Y N k).length = N := by simp [shK]; omega
theorem shK_zero (X Y : List (List Int)) (N : Nat) : shK X Y N 0 = List.replicate N false := by simp [shK]
theorem shK_set {X Y : List (List Int)} {N k : Nat} (h : k < N) : (shK X Y N k).set k (shB X Y k) = shK X Y N (k + 1) := by
  unfold shK
  have e : N - k = (N - (k + 1)) + 1 := by omega
  rw [List.set_append_right _ _ (by simp), e, List.replicate_succ, List.range_succ]
  simp
theorem shK_all {X Y : List (List Int)} {k : Nat} (h : k ≤ Y.length) (hx : k < Y.length → X.length ≤ k) : shK X Y Y.length k = shL X Y := by
  unfold shK shL
  have e : List.range Y.length = List.range k ++ (List.range (Y.length - k)).map (k + ·) := by
    rw [← List.range_add, show k + (Y.length - k) = Y.length by omega]
  rw [e, List.map_append, List.map_map]
  congr 1
  symm
  rw [List.eq_replicate_iff]
  refine ⟨by simp, fun b hb => ?_⟩
  obtain ⟨j, hj, rfl⟩ := List.mem_map.1 hb
  rw [List.mem_range] at hj
  simp only [Function.comp, shB]
  rw [decide_eq_false (by omega)]
  rfl
set_option maxRecDepth 100000 in
set_option maxHeartbeats 1000000 in
theorem psame_any (Z : List (List Int)) (v u : Value) (w : World) (hv : RdPs Z v w) (hu : RdPs Z u w) :
    Calls Try.prog 12 #[v, u] w fun e w' => e = .returned (.bool true) ∧ Below w.heap.size w w' := by
  obtain ⟨a, cap, rfl⟩ := hv.shape
  obtain ⟨a2, cap2, rfl⟩ := hu.shape
  have HV := Lib.hid hv
  have HU := Lib.hid hu
  have hl : (Z.length : Int) ≤ 9223372036854775807 := by
    obtain ⟨us, ⟨_, a', cap', he, g1, g2, _⟩, g3, _⟩ := hv
    unfold maxLen at g2
    omega
  clear hv hu
  go_enter Try.func12, Try.ntmps12
  go_wp2
  go_loopw [5] (fun i wr => ∃ k : Nat, k ≤ Z.length ∧ i = .int .i64 (k : Int) ∧ Hid (Below w.heap.size w wr)) (fun i _ => Z.length - (intOf i).toNat)
  case atStart => exact ⟨0, by omega, rfl, Lib.hid (Below.refl _ _)⟩
  case round =>
    obtain ⟨k, hk, rfl, HB⟩ := hrel
    by_cases hlt : k < Z.length
    · obtain ⟨b, off, p, m, c, rfl, -, hb, hc, hr, -⟩ := (HV.out.below HB.out).at_ hlt
      obtain ⟨b2, off2, p2, m2, c2, rfl, -, hb2, hc2, hr2, -⟩ := (HU.out.below HB.out).at_ hlt
      have cv1 := hr.convN
      have cv2 := hr2.convN
      have hki : (k : Int) < (Z.length : Int) := by omega
      clear hr hr2
      generalize strOfNums (Z.getD k []) = s at *
      go_wp2
      go_quiet (fail)
      go_wp2
      go_roundw
      case rel => exact ⟨k + 1, by omega, by go_num, Lib.hid (below_drewN HB.out _)⟩
      case measure => simp [intOf]; omega
    · obtain rfl : k = Z.length := by omega
      go_wp2
      go_ret
      exact ⟨rfl, HB.out⟩
set_option maxRecDepth 100000 in
set_option maxHeartbeats 1000000 in
theorem pshared_any (X Y : List (List Int)) (v u : Value) (w : World) (hv : RdPs X v w) (hu : RdPs Y u w) (hY : Y.length ≤ 1000000000000) :
    Calls Try.prog 16 #[v, u] w fun e w' => ∃ v', e = .returned v' ∧ RdO (shL X Y) v' w' ∧ Below w.heap.size w w' := by
  obtain ⟨a, cap, rfl⟩ := hv.shape
  obtain ⟨a2, cap2, rfl⟩ := hu.shape
  have HV := Lib.hid hv
  have HU := Lib.hid hu
  have hl : (X.length : Int) ≤ 9223372036854775807 := by
    obtain ⟨us, ⟨_, a', cap', he, g1, g2, _⟩, g3, _⟩ := hv
    unfold maxLen at g2
    omega
  clear hv hu
  obtain ⟨K, hK⟩ : ∃ K, min X.length Y.length = K := ⟨_, rfl⟩
  have hmin : min (X.length : Int) (Y.length : Int) = (K : Int) := by omega
  have hK1 : K ≤ Y.length := by omega
  have hK2 : K ≤ X.length := by omega
  have hK3 : K < Y.length → X.length ≤ K := by omega
  have HZ := Lib.hid (shK_zero X Y Y.length)
  have HA := Lib.hid (shK_all (X := X) hK1 hK3)
  clear hK hK3
  go_enter Try.func16, Try.ntmps16
  go_wp2_with (at_make; (refine wp_makeO rfl _ _ rfl Y.length rfl rfl (by omega) ?_; intro w1 o1 b1 hz; rw [← HZ.out] at o1; have O1 := Lib.hid o1; have B1 := Lib.hid b1; clear o1 b1 hz))
  go_loopw [6, 15] (fun _ i wr => ∃ k : Nat, k ≤ K ∧ i = .int .i64 (k : Int) ∧ Hid (OwnO w.heap.size (shK X Y Y.length k) (.slice (some ⟨w.heap.size, 0, none⟩) Y.length Y.length) wr) ∧ Hid (Below w.heap.size w wr)) (fun _ i _ => K - (intOf i).toNat)
  case atStart => exact ⟨0, by omega, rfl, O1, B1⟩
  case round =>
    clear O1 B1
    obtain ⟨k, hk, rfl, HO, HB⟩ := hrel
    by_cases hlt : k < K
    · have hkY : k < Y.length := by omega
      have hkX : k < X.length := by omega
      obtain ⟨b, off, p, m, c, rfl, -, hb, hc, hr, -⟩ := (HV.out.below HB.out).at_ hkX
      obtain ⟨b2, off2, p2, m2, c2, rfl, -, hb2, hc2, hr2, -⟩ := (HU.out.below HB.out).at_ hkY
      have heq : ∀ n, Calls Try.prog 23 #[.slice p m c, .slice p2 m2 c2] (wr.drewN n) fun e w' => e = .returned (.bool (shB X Y k)) ∧ wr.drewN n = w' := fun n => by
        have := bequal_any _ _ _ _ (wr.drewN n) (show Rd _ _ (wr.drewN n) from hr) (show Rd _ _ (wr.drewN n) from hr2)
        unfold shB
        rw [decide_eq_true hkX]
        exact this
      obtain ⟨g, hg, hB, hlt2, hcl, hst⟩ := HO.out.cells (by rw [shK_len (by omega)]; omega)
      simp only [Option.some.injEq, Addr.mk.injEq, and_true] at hg
      subst hg
      obtain ⟨hr0, hf0⟩ := hcl k (by rw [shK_len (by omega)]; omega)
      have hst2 := hst k (shB X Y k)
      rw [shK_set hkY] at hst2
      have hk3 : (k : Int) < (K : Int) := by omega
      have hk4 : (k : Int) < (X.length : Int) := by omega
      have hk5 : (k : Int) < (Y.length : Int) := by omega
      generalize (shK X Y Y.length k).getD k false = old at *
      obtain ⟨q, hq⟩ : ∃ q, shB X Y k = q := ⟨_, rfl⟩
      rw [hq] at heq hst2
      have HS2 := Lib.hid hst2
      clear hr hr2 hst2 hst hcl hq
      go_wp2
      go_region_with (go_at_call 23; refine (heq _).mono ?_; rintro e w' ⟨rfl, rfl⟩)
      all_goals
        go_wp2
        go_roundw
        case rel => exact ⟨k + 1, by omega, by go_num, HS2, Lib.hid (below_drewN (bset HB.out _ _ _ (Nat.le_refl _)) _)⟩
        case measure => simp [intOf]; omega
    · obtain rfl : k = K := by omega
      go_wp2
      go_ret
      exact ⟨_, rfl, by have := HO.out.rd; rwa [HA.out] at this, HB.out⟩
end Go.Proofs.Ytbppdbfjhdhehaa
