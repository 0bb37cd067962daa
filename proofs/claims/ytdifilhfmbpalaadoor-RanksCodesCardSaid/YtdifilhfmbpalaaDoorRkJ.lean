/- The contract of ranks' join. -/
import Derived.Test.YtdifilhfmbpalaaDoorRkG
import Derived.Test.YtdifilhfmbpalaaDoorPRVal
import Derived.Deep.RegionLaw
namespace Go.Proofs.YtdifilhfmbpalaaDoor
open Go.RowKit
set_option linter.unusedVariables false
set_option linter.unusedSimpArgs false
/-- The keys of each level of both lists. -/
def joinL (A B : List (List ByteArray)) : List (List ByteArray) := (List.range (max A.length B.length)).map fun i => A.getD i [] ++ B.getD i []
/-- .. of the first k levels; the others are empty yet. -/
def midJ (A B : List (List ByteArray)) (k : Nat) : List (List ByteArray) := (List.range (max A.length B.length)).map fun i => if i < k then A.getD i [] ++ B.getD i [] else []
theorem midJ_len (A B : List (List ByteArray)) (k : Nat) : (midJ A B k).length = max A.length B.length := by simp [midJ]
theorem joinL_len (A B : List (List ByteArray)) : (joinL A B).length = max A.length B.length := by simp [joinL]
theorem midJ_at (A B : List (List ByteArray)) (k i : Nat) (h : i < max A.length B.length) : (midJ A B k).getD i [] = if i < k then A.getD i [] ++ B.getD i [] else [] := by
  simp only [midJ, List.getD, List.getElem?_map, List.getElem?_range h, Option.map_some, Option.getD_some]
theorem joinL_at (A B : List (List ByteArray)) (i : Nat) : (joinL A B).getD i [] = A.getD i [] ++ B.getD i [] := by
  by_cases h : i < max A.length B.length
  · simp only [joinL, List.getD, List.getElem?_map, List.getElem?_range h, Option.map_some, Option.getD_some]
  · have h1 : A.getD i [] = [] := by simp [List.getD, List.getElem?_eq_none (show A.length ≤ i by omega)]
    have h2 : B.getD i [] = [] := by simp [List.getD, List.getElem?_eq_none (show B.length ≤ i by omega)]
    rw [h1, h2]
    simp only [List.getD]
    rw [List.getElem?_eq_none (by rw [joinL_len]; omega)]
    rfl
theorem ext_getD {L M : List (List ByteArray)} (h : L.length = M.length) (he : ∀ i, i < L.length → L.getD i [] = M.getD i []) : L = M := by
  apply List.ext_getElem h
  intro i h1 h2
  have := he i h1
  simpa [List.getD, h1, h2] using this
theorem midJ_zero (A B : List (List ByteArray)) : midJ A B 0 = List.replicate (max A.length B.length) [] := by
  refine ext_getD (by simp [midJ]) (fun i hi => ?_)
  rw [midJ_len] at hi
  rw [midJ_at A B 0 i hi, if_neg (by omega)]
  simp [List.getD, List.getElem?_replicate, hi]
theorem midJ_all (A B : List (List ByteArray)) : midJ A B (max A.length B.length) = joinL A B := by
  refine ext_getD (by rw [midJ_len, joinL_len]) (fun i hi => ?_)
  rw [midJ_len] at hi
  rw [midJ_at A B _ i hi, if_pos hi, joinL_at]
theorem midJ_set (A B : List (List ByteArray)) (k : Nat) {X : List ByteArray} (hX : X = A.getD k [] ++ B.getD k []) (hk : k < max A.length B.length) : (midJ A B k).set k X = midJ A B (k + 1) := by
  refine ext_getD (by rw [List.length_set, midJ_len, midJ_len]) (fun i hi => ?_)
  rw [List.length_set, midJ_len] at hi
  rw [midJ_at A B (k + 1) i hi]
  by_cases h : k = i
  · subst h
    rw [getD_set_eq (by rw [midJ_len]; exact hk), if_pos (by omega), hX]
  · rw [getD_set_ne h, midJ_at A B k i hi]
    by_cases h2 : i < k
    · rw [if_pos h2, if_pos (by omega)]
    · rw [if_neg h2, if_neg (by omega)]
/-- Levels of the call's own under way, in the block g. -/
def JS (W : World) (g N : Nat) (C : List (List ByteArray)) (us : List Value) (w : World) : Prop := OwnL W.heap.size C us (.slice (some ⟨g, 0, none⟩) N N) w ∧ Below W.heap.size W w ∧ C.length = N
section
variable {W : World} {g N : Nat} {C : List (List ByteArray)} {us : List Value} {w w' : World}
theorem JS.go (h : JS W g N C us w) (hb : Below w.heap.size w w') : JS W g N C us w' := ⟨h.1.below hb, bgo h.2.1 hb, h.2.2⟩
theorem JS.drew (h : JS W g N C us w) : JS W g N C us w.drew := h.go (Below.refl _ _).drew
theorem JS.own (h : JS W g N C us w) {k : Nat} (hk : k < N) : OwnS W.heap.size (C.getD k []) (us.getD k nilS) w := h.1.2.1.2 k (by rw [h.2.2]; exact hk)
theorem JS.cell (h : JS W g N C us w) {k : Nat} (hk : k < N) : w.cell? ⟨g, k, none⟩ = some (us.getD k nilS) ∧ w.frozen? ⟨g, k, none⟩ = false := by
  have hl := h.1.len
  obtain ⟨g', he, -, -, -, hc⟩ := h.1.1.cells (by rw [hl, h.2.2]; omega)
  cases he
  exact hc k (by rw [hl, h.2.2]; exact hk)
theorem JS.ge (h : JS W g N C us w) (hk : 0 < N) : W.heap.size ≤ g := by
  have hl := h.1.len
  obtain ⟨g', he, -, hb, -, -⟩ := h.1.1.cells (by rw [hl, h.2.2]; omega)
  cases he
  exact hb
/-- The row of level k has been appended to: the cells of the outer row stay. -/
theorem JS.mid (h : JS W g N C us w) {k : Nat} (hk : k < N) {M : List ByteArray} {u : Value} (hu : OwnS W.heap.size M u w') (hl : Lone (us.getD k nilS) w w') (hf : Fr (us.getD k nilS) u w) :
    w'.cell? ⟨g, k, none⟩ = some (us.getD k nilS) ∧ w'.frozen? ⟨g, k, none⟩ = false := by
  have hl1 := h.1.len
  obtain ⟨t1, -, -⟩ := h.1.turn (by rw [h.2.2]; exact hk) hu hl hf
  obtain ⟨g', he, -, -, -, hc⟩ := t1.cells (by rw [hl1, h.2.2]; omega)
  cases he
  exact hc k (by rw [hl1, h.2.2]; exact hk)
theorem JS.put (h : JS W g N C us w) {k : Nat} (hk : k < N) {M : List ByteArray} {u : Value} (hu : OwnS W.heap.size M u w') (hb : Below W.heap.size w w') (hl : Lone (us.getD k nilS) w w') (hf : Fr (us.getD k nilS) u w) :
    JS W g N (C.set k M) (us.set k u) (w'.setCell ⟨g, k, none⟩ u) :=
  ⟨h.1.set (by rw [h.2.2]; exact hk) hu hl hf, bset (h.2.1.trans hb) _ _ _ (h.ge (by omega)), by rw [List.length_set]; exact h.2.2⟩
end
set_option maxRecDepth 100000 in
set_option maxHeartbeats 4000000 in
theorem join_any (A B : List (List ByteArray)) (va vb : Value) (w : World) (ha : RdL A va w) (hb : RdL B vb w) (hA : LOk A) (hB : LOk B) :
    Calls Tryd.prog 68 #[va, vb] w fun e w' => ∃ us g c, e = .returned (.slice (some ⟨g, 0, none⟩) (joinL A B).length c) ∧ OwnL w.heap.size (joinL A B) us (.slice (some ⟨g, 0, none⟩) (joinL A B).length c) w' ∧ Below w.heap.size w w' := by
  have HA := Lib.hid ha
  have HB := Lib.hid hb
  have HAO := Lib.hid hA
  have HBO := Lib.hid hB
  have hA1 := hA.1
  have hB1 := hB.1
  obtain ⟨aa, ca, rfl⟩ := ha.shape
  obtain ⟨ab, cb, rfl⟩ := hb.shape
  clear ha hb hA hB
  have HMX : Hid (∀ k, k < max A.length B.length ↔ (k < A.length ∨ k < B.length)) := Lib.hid (fun k => by omega)
  have HZ := Lib.hid (midJ_zero A B)
  have HAL := Lib.hid (midJ_all A B)
  have HML := Lib.hid (fun k => midJ_len A B k)
  have hNb : max A.length B.length ≤ 549755813888 := by omega
  have hmx : max (A.length : Int) (B.length : Int) = ((max A.length B.length : Nat) : Int) := by omega
  have HNN : Hid (∃ N, N = max A.length B.length) := Lib.hid ⟨_, rfl⟩
  obtain ⟨N, hN⟩ := HNN.out
  rw [← hN] at HZ HAL HML hNb
  have HN := Lib.hid hN
  clear HNN hN
  go_enter Tryd.func68, Tryd.ntmps68
  have HQ : Hid (Value.int .i64 ((max A.length B.length : Nat) : Int) = .int .i64 (N : Int)) := Lib.hid (by rw [HN.out])
  go_wp2_with (at_make; (refine wp_makeV rfl _ _ rfl N HQ.out HQ.out (by omega) ?_; intro w1 ho1 hb1 hs1; have J0 : Hid (JS w w.heap.size N (midJ A B 0) (List.replicate N nilS) w1) := Lib.hid ⟨by rw [HZ.out]; exact OwnL.made ho1, hb1, by rw [HML.out]⟩; clear ho1 hb1 hs1))
  clear HQ hmx
  go_loopw [6, 15] (fun _ i wr => ∃ (k : Nat) (us : List Value), k ≤ N ∧ i = .int .i64 (k : Int) ∧ Hid (JS w w.heap.size N (midJ A B k) us wr)) (fun _ i _ => N - (intOf i).toNat)
  case atStart => exact ⟨0, _, by omega, rfl, J0⟩
  case round =>
    clear J0
    obtain ⟨k, us, hk, rfl, HJ⟩ := hrel
    by_cases hlt : k < N
    · have hlt2 : (k : Int) < (N : Int) := by omega
      have hmj := midJ_at A B k k (by rw [← HN.out]; exact hlt)
      rw [if_neg (Nat.lt_irrefl k)] at hmj
      have HM0 := Lib.hid hmj
      have HST := Lib.hid (fun (X : List ByteArray) hX => midJ_set A B k (X := X) hX (by rw [← HN.out]; exact hlt))
      have HAK := Lib.hid (HAO.out.at_ k).1
      have HBK := Lib.hid (HBO.out.at_ k).1
      have HGA : Hid (¬ k < A.length → A.getD k [] = []) := Lib.hid (fun h => by simp [List.getD, List.getElem?_eq_none (Nat.le_of_not_lt h)])
      have HGB : Hid (¬ k < B.length → B.getD k [] = []) := Lib.hid (fun h => by simp [List.getD, List.getElem?_eq_none (Nat.le_of_not_lt h)])
      have HRA : Hid (∀ h : k < A.length, ∃ b off u m c, aa = some ⟨b, off, none⟩ ∧ b < w.heap.size ∧ w.cell? ⟨b, off + k, none⟩ = some (.slice u m c) ∧ RdS (A.getD k []) (.slice u m c) w) := Lib.hid (fun h => by
        obtain ⟨b, off, u, m, c, h1, -, h2, h3, h4, -⟩ := HA.out.at_ h
        exact ⟨b, off, u, m, c, h1, h2, h3, h4⟩)
      have HRB : Hid (∀ h : k < B.length, ∃ b off u m c, ab = some ⟨b, off, none⟩ ∧ b < w.heap.size ∧ w.cell? ⟨b, off + k, none⟩ = some (.slice u m c) ∧ RdS (B.getD k []) (.slice u m c) w) := Lib.hid (fun h => by
        obtain ⟨b, off, u, m, c, h1, -, h2, h3, h4, -⟩ := HB.out.at_ h
        exact ⟨b, off, u, m, c, h1, h2, h3, h4⟩)
      have HML2 := Lib.hid (HML.out k)
      have HMXK := Lib.hid ((HMX.out k).1 (by rw [← HN.out]; exact hlt))
      clear hmj
      generalize A.getD k [] = LA at *
      generalize B.getD k [] = LB at *
      generalize midJ A B k = C0 at *
      by_cases hka : k < A.length
      · have hka2 : (k : Int) < (A.length : Int) := by omega
        have HJD1 := Lib.hid HJ.out.drew
        obtain ⟨hc1, hf1⟩ := HJ.out.cell hlt
        have HO1 := Lib.hid (HJD1.out.own hlt)
        rw [HM0.out] at HO1
        obtain ⟨U1, hU1⟩ : ∃ U, us.getD k nilS = U := ⟨_, rfl⟩
        rw [hU1] at hc1 HO1
        have HU1 := Lib.hid hU1
        clear hU1
        obtain ⟨ba, offa, ua, ma, ca, rfl, hba, hca, hra⟩ := HRA.out hka
        have hcca : wr.cell? ⟨ba, offa + k, none⟩ = some (.slice ua ma ca) := ((bcell HJ.out.2.1).1 ba _ hba).trans hca
        have HSA := Lib.hid (fun (w' : World) (h : Below w.heap.size w w') => (hra.below h).src)
        have HBW1 := Lib.hid HJD1.out.2.1
        clear hra hca
        go_wp2
        go_region_law (refine step_appF rfl _ _ _ rfl w.heap.size [] LA U1 (.slice ua ma ca) rfl rfl HO1.out (HSA.out _ HBW1.out) HBW1.out.size (by have := HAK.out; have := HAK.out; simp; omega) ?_; (intro v1 w1 ho1 hb1 hl1 hf1; obtain ⟨a1, c1, rfl⟩ := ho1.rd.shape; obtain ⟨hx1, hxf1⟩ := HJD1.out.mid hlt ho1 (by rw [HU1.out]; exact hl1) (by rw [HU1.out]; exact hf1); rw [HU1.out] at hx1; have J1 := Lib.hid (HJD1.out.put hlt ho1 hb1 (by rw [HU1.out]; exact hl1) (by rw [HU1.out]; exact hf1)); clear ho1 hb1 hl1 hf1))
        all_goals
          rw [List.nil_append] at J1
          have HM1 : Hid ((C0.set k LA).getD k [] = LA) := Lib.hid (getD_set_eq (by rw [HML2.out]; exact hlt))
          clear hx1 hxf1 hcca hf1 hc1
          generalize w1.setCell ⟨w.heap.size, k, none⟩ (.slice a1 LA.length c1) = w2 at *
          generalize us.set k (.slice a1 LA.length c1) = us1 at *
          by_cases hkb : k < B.length
          · have hkb2 : (k : Int) < (B.length : Int) := by omega
            have HJD2 := Lib.hid J1.out.drew
            obtain ⟨hc2, hf2⟩ := J1.out.cell hlt
            have HO2 := Lib.hid (HJD2.out.own hlt)
            rw [HM1.out] at HO2
            obtain ⟨U2, hU2⟩ : ∃ U, us1.getD k nilS = U := ⟨_, rfl⟩
            rw [hU2] at hc2 HO2
            have HU2 := Lib.hid hU2
            clear hU2
            obtain ⟨bb, offb, ub, mb, cb, rfl, hbb, hcb, hrb⟩ := HRB.out hkb
            have hccb : w2.cell? ⟨bb, offb + k, none⟩ = some (.slice ub mb cb) := ((bcell J1.out.2.1).1 bb _ hbb).trans hcb
            have HSB := Lib.hid (fun (w' : World) (h : Below w.heap.size w w') => (hrb.below h).src)
            have HBW2 := Lib.hid HJD2.out.2.1
            clear hrb hcb
            go_wp2
            go_region_law (refine step_appF rfl _ _ _ rfl w.heap.size LA LB U2 (.slice ub mb cb) rfl rfl HO2.out (HSB.out _ HBW2.out) HBW2.out.size (by have := HBK.out; have := HAK.out; simp; omega) ?_; (intro v1 w1 ho1 hb1 hl1 hf1; obtain ⟨a1, c1, rfl⟩ := ho1.rd.shape; obtain ⟨hc1, hfz1⟩ := HJD2.out.mid hlt ho1 (by rw [HU2.out]; exact hl1) (by rw [HU2.out]; exact hf1); rw [HU2.out] at hc1; have J2 := Lib.hid (HJD2.out.put hlt ho1 hb1 (by rw [HU2.out]; exact hl1) (by rw [HU2.out]; exact hf1)); clear ho1 hb1 hl1 hf1))
            all_goals
              go_wp2
              exact ⟨⟨k + 1, _, by omega, by go_num, Lib.hid (by have h := J2.out; rw [List.set_set, HST.out _ rfl] at h; first | exact h | (rw [List.length_append] at h; exact h))⟩, by simp [intOf]; omega⟩
          · have hkb2 : ¬ (k : Int) < (B.length : Int) := by omega
            have hB0 := HGB.out hkb
            subst hB0
            go_wp2
            exact ⟨⟨k + 1, _, by omega, by go_num, Lib.hid (by have h := J1.out; rw [HST.out _ (List.append_nil LA).symm] at h; exact h)⟩, by simp [intOf]; omega⟩
      · have hka2 : ¬ (k : Int) < (A.length : Int) := by omega
        have hA0 := HGA.out hka
        subst hA0
        have hkb : k < B.length := by have := HMXK.out; omega
        have hkb2 : (k : Int) < (B.length : Int) := by omega
        have HJD2 := Lib.hid HJ.out.drew
        obtain ⟨hc2, hf2⟩ := HJ.out.cell hlt
        have HO2 := Lib.hid (HJD2.out.own hlt)
        rw [HM0.out] at HO2
        obtain ⟨U2, hU2⟩ : ∃ U, us.getD k nilS = U := ⟨_, rfl⟩
        rw [hU2] at hc2 HO2
        have HU2 := Lib.hid hU2
        clear hU2
        obtain ⟨bb, offb, ub, mb, cb, rfl, hbb, hcb, hrb⟩ := HRB.out hkb
        have hccb : wr.cell? ⟨bb, offb + k, none⟩ = some (.slice ub mb cb) := ((bcell HJ.out.2.1).1 bb _ hbb).trans hcb
        have HSB := Lib.hid (fun (w' : World) (h : Below w.heap.size w w') => (hrb.below h).src)
        have HBW2 := Lib.hid HJD2.out.2.1
        clear hrb hcb
        go_wp2
        go_region_law (refine step_appF rfl _ _ _ rfl w.heap.size [] LB U2 (.slice ub mb cb) rfl rfl HO2.out (HSB.out _ HBW2.out) HBW2.out.size (by have := HBK.out; have := HAK.out; simp; omega) ?_; (intro v1 w1 ho1 hb1 hl1 hf1; obtain ⟨a1, c1, rfl⟩ := ho1.rd.shape; obtain ⟨hc1, hfz1⟩ := HJD2.out.mid hlt ho1 (by rw [HU2.out]; exact hl1) (by rw [HU2.out]; exact hf1); rw [HU2.out] at hc1; have J2 := Lib.hid (HJD2.out.put hlt ho1 hb1 (by rw [HU2.out]; exact hl1) (by rw [HU2.out]; exact hf1)); clear ho1 hb1 hl1 hf1))
        all_goals
          go_wp2
          exact ⟨⟨k + 1, _, by omega, by go_num, Lib.hid (by have h := J2.out; rw [HST.out _ rfl] at h; exact h)⟩, by simp [intOf]; omega⟩
    · obtain rfl : k = N := by omega
      have hnlt : ¬ (k : Int) < (k : Int) := by omega
      have HJ2 := Lib.hid HJ.out
      rw [HAL.out] at HJ2
      clear HJ
      go_wp2
      go_ret
      have hl := HJ2.out.2.2
      exact ⟨_, w.heap.size, k, by rw [hl]; rfl, by rw [hl]; exact HJ2.out.1, HJ2.out.2.1⟩
end Go.Proofs.YtdifilhfmbpalaaDoor
