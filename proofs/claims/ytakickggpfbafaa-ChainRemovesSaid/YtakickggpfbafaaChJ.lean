/- The reference's RemoveVersion. -/
import Derived.Test.YtakickggpfbafaaChF
import Derived.Test.YtakickggpfbafaaChG
namespace Go.Proofs.Ytakickggpfbafaa
open Go.RowKit
set_option linter.unusedVariables false
set_option linter.unusedSimpArgs false
theorem RdVs.cut {M : List Vs} {b off n cap : Nat} {w : World} (h : RdVs M (.slice (some ⟨b, off, none⟩) n cap) w) (lo : Nat) (h1 : lo ≤ M.length) (a' : Option Addr) (ha : lo < M.length → a' = some ⟨b, off + lo * 4, none⟩) {m c : Nat} (hm : m = n - lo) (hc : c = cap - lo) : RdVs (M.drop lo) (.slice a' m c) w := by
  obtain ⟨hy, a, cap', he, q1, q2, q3⟩ := h
  simp only [Value.slice.injEq] at he
  obtain ⟨rfl, rfl, rfl⟩ := he
  refine ⟨fun x hx => hy x (List.mem_of_mem_drop hx), a', c, ?_, ?_, by omega, fun hp => ?_⟩
  · rw [List.length_drop, hm]
  · rw [List.length_drop]; omega
  · rw [List.length_drop] at hp
    obtain ⟨b', off', hbo, hlt, hcell⟩ := q3 (by omega)
    simp only [Option.some.injEq, Addr.mk.injEq, and_true] at hbo
    obtain ⟨rfl, rfl⟩ := hbo
    refine ⟨b, off + lo * 4, ha (by omega), hlt, fun j hj => ?_⟩
    rw [List.length_drop] at hj
    have := hcell (lo + j) (by omega)
    rw [Nat.add_mul, ← Nat.add_assoc] at this
    have e : (M.drop lo).getD j Vs.z = M.getD (lo + j) Vs.z := by simp [List.getD]
    rw [e]
    exact this
theorem RdVs.head {M : List Vs} {a : Option Addr} {n cap : Nat} {w : World} (h : RdVs M (.slice a n cap) w) (hi : Nat) (h1 : hi ≤ M.length) : RdVs (M.take hi) (.slice a hi cap) w := by
  obtain ⟨hy, a', cap', he, q1, q2, q3⟩ := h
  simp only [Value.slice.injEq] at he
  obtain ⟨rfl, rfl, rfl⟩ := he
  have hl : (M.take hi).length = hi := by rw [List.length_take]; omega
  refine ⟨hy.take hi, a, cap, by rw [hl], by rw [hl]; omega, q2, fun hp => ?_⟩
  rw [hl] at hp
  obtain ⟨b, off, rfl, hlt, hcell⟩ := q3 (by omega)
  refine ⟨b, off, rfl, hlt, fun j hj => ?_⟩
  rw [hl] at hj
  have e : (M.take hi).getD j Vs.z = M.getD j Vs.z := by simp [List.getD, List.getElem?_take, hj]
  rw [e]
  exact hcell j (by omega)
theorem remK_hit {L : List Vn} {c : Int} {q : Nat} (h : ∀ x, x < q → (L.getD x Vn.z).n ≠ c) (hq : q < L.length) (hh : (L.getD q Vn.z).n = c) : remK L c = some q := by
  unfold remK
  rw [List.findIdx?_eq_some_iff_getElem]
  refine ⟨hq, by simpa [List.getD, hq] using hh, fun j hj => ?_⟩
  have := h j hj
  simpa [List.getD, show j < L.length by omega] using this
theorem remK_miss {L : List Vn} {c : Int} (h : ∀ x, x < L.length → (L.getD x Vn.z).n ≠ c) : remK L c = none := by
  unfold remK
  rw [List.findIdx?_eq_none_iff]
  intro x hx
  obtain ⟨j, hj, rfl⟩ := List.mem_iff_getElem.1 hx
  simpa [List.getD, hj] using h j hj
set_option maxRecDepth 100000 in
set_option maxHeartbeats 4000000 in
theorem rrem_any (M : List Vs) (L : List Vn) (u : Value) (c : Int) (w : World) (hv : RdVs M u w) (hm : VmAt 0 M L w) (hL : L.length ≤ 1000) :
    Calls Try.prog 21 #[u, .int .i64 c] w fun e w' => OutX 0 L c w e w' := by
  have hml := hm.len
  obtain ⟨a, cap, rfl⟩ := hv.shape
  have HV := Lib.hid (hv.below (b1 (.cells #[.int .i64 0, .int .i64 0, .int .i64 0, .slice none 0 0] 33)))
  have HM := Lib.hid (hm.below (b1 (.cells #[.int .i64 0, .int .i64 0, .int .i64 0, .slice none 0 0] 33)))
  have HM0 := Lib.hid hm
  have HR := Lib.hid (RowAt.new w #[.int .i64 0, .int .i64 0, .int .i64 0, .slice none 0 0] 33)
  have HB0 := Lib.hid (b1 (a := w) (.cells #[.int .i64 0, .int .i64 0, .int .i64 0, .slice none 0 0] 33))
  have HML := Lib.hid hml
  have HL := Lib.hid hL
  have hcap : L.length ≤ cap ∧ cap ≤ 9223372036854775807 := by
    obtain ⟨_, a', cap', he, h1, h2, _⟩ := hv
    simp only [Value.slice.injEq] at he
    obtain ⟨-, -, rfl⟩ := he
    unfold maxLen at h2
    omega
  rw [hml] at HV ⊢
  clear hv hm hml
  go_enter Try.func21, Try.ntmps21
  go_wp2
  have HS := Lib.hid (show w.heap.size < (w.alloc (.cells #[.int .i64 0, .int .i64 0, .int .i64 0, .slice none 0 0] 33)).heap.size by simp)
  generalize w.alloc (.cells #[.int .i64 0, .int .i64 0, .int .i64 0, .slice none 0 0] 33) = wA at *
  go_loopw [7] (fun i wr => ∃ q : Nat, q ≤ L.length ∧ i = .int .i64 (q : Int) ∧ Hid (∀ x, x < q → (L.getD x Vn.z).n ≠ c) ∧ Hid (Below wA.heap.size wA wr)) (fun i _ => L.length - (intOf i).toNat)
  case atStart => exact ⟨0, by omega, rfl, Lib.hid (fun x hx => by omega), Lib.hid (Below.refl _ _)⟩
  case round =>
    obtain ⟨q, hq, rfl, HN, HB⟩ := hrel
    by_cases hlt : q < L.length
    · have hqi : (q : Int) < (L.length : Int) := by omega
      obtain ⟨b, off, s1, e1, rfl, hb, c0, c1, c2, c3, hown⟩ := vm_at (HV.out.below HB.out) (HM.out.below HB.out) hlt
      have HHIT := Lib.hid (fun h => remK_hit HN.out hlt h)
      have HNX : Hid ((L.getD q Vn.z).n ≠ c → ∀ x, x < q + 1 → (L.getD x Vn.z).n ≠ c) := Lib.hid (fun h x hx => by
        rcases Nat.lt_or_ge x q with h' | h'
        · exact HN.out x h'
        · obtain rfl : x = q := by omega
          exact h)
      have hxm : ((HM.out.below HB.out).at_ hlt).1 = ((HM.out.below HB.out).at_ hlt).1 := rfl
      have HAT := Lib.hid (fun (w' : World) (hb' : Below w.heap.size w w') => ((HM0.out.below hb').at_ hlt).2.2.2)
      obtain ⟨sM, hsM⟩ : ∃ s, (M.getD q Vs.z).s = s := ⟨_, rfl⟩
      have HCM := Lib.hid ((HV.out.below HB.out).at_ (j := q) (by have := HML.out; omega))
      rw [hsM] at HAT HCM
      have hs3 : sM = .slice s1 (L.getD q Vn.z).p.length e1 := by
        obtain ⟨b', off', hbo, -, -, -, -, h3⟩ := HCM.out
        simp only [Option.some.injEq, Addr.mk.injEq, and_true] at hbo
        obtain ⟨rfl, rfl⟩ := hbo
        rw [c3] at h3
        exact (Option.some.inj h3).symm
      rw [hs3] at HAT
      clear hsM hs3 HCM hxm hown
      generalize hy : L.getD q Vn.z = y at *
      obtain ⟨n, r, k, p⟩ := y
      simp only at c0 c1 c2 c3
      have HY := Lib.hid hy
      clear hy
      have HHIT : Hid (n = c → remK L c = some q) := HHIT
      have HAT : Hid (∀ w' : World, Below w.heap.size w w' → OwnI 0 p (.slice s1 p.length e1) w') := HAT
      by_cases hn : n = c
      · have HKK := Lib.hid (HHIT.out hn)
        have HRD := Lib.hid (HV.out.below HB.out)
        have HQ := Lib.hid hlt
        have hcap1 := hcap.1
        have hcap2 := hcap.2
        have hy0 : (q : Int) ≤ (L.length : Int) := by omega
        have hy2 : (0 : Int) ≤ (q : Int) + 1 := by omega
        have hy3 : (q : Int) + 1 ≤ (L.length : Int) := by omega
        have hy4 : (L.length : Int) ≤ (cap : Int) := by omega
        have hy5 : (q : Int) ≤ (cap : Int) := by omega
        have hw1 : IntKind.i64.wrap ((q : Int) + 1) = (q : Int) + 1 := by rw [IntKind.wrap_i64]; omega
        have hw2 : wrap64 ((q : Int) + 1) = (q : Int) + 1 := by unfold wrap64; omega
        have hcn : ¬ (cap = q) := by omega
        subst hn
        clear HHIT HNX
        have HRW := Lib.hid (HR.out.go HB.out)
        have HSW : Hid (w.heap.size < wr.heap.size) := Lib.hid HRW.out.lt
        have HB0W := Lib.hid (bgo HB0.out HB.out)
        by_cases hcc : cap = q + 1
        · subst hcc
          go_upto_region 6 with (at_builtin; refine wp_appVsk rfl _ _ 22 rfl wr.heap.size [] (M.take q) _ _ rfl rfl (OwnVs.empty _ _) (HRD.out.head q (by have := HML.out; have := HQ.out; omega)).src ?_ ?_ ?_; exact Nat.le_refl _; (have h7 := HML.out; have h8 := HL.out; simp <;> omega); intro v2 w2 ho2 hb2 hk2; have HO2 : Hid (OwnVs wr.heap.size (M.take q) v2 w2) := Lib.hid ho2; have B2 := Lib.hid hb2; clear ho2 hb2 hk2)
          have g0 := ((bcell B2.out).1 b (off + q * 4) hb).trans c0
          have g1 := ((bcell B2.out).1 b (off + q * 4 + 1) hb).trans c1
          have g2 := ((bcell B2.out).1 b (off + q * 4 + 2) hb).trans c2
          have g3 := ((bcell B2.out).1 b (off + q * 4 + 3) hb).trans c3
          have HO2D : Hid (OwnVs wr.heap.size (M.take q) v2 w2.drew) := Lib.hid HO2.out
          have HRD2 : Hid (RdVs M (.slice (some ⟨b, off, none⟩) L.length (q + 1)) w2.drew) := Lib.hid (HRD.out.below (below_drew B2.out))
          have HBS : Hid (wr.heap.size ≤ w2.drew.heap.size) := Lib.hid B2.out.size
          have HBL := Lib.hid hb
          go_region_law (refine step_appVsk rfl _ _ 22 rfl wr.heap.size (M.take q) (M.drop (q + 1)) v2 (.slice (some ⟨b, off, none⟩) 0 0) (by first | (simp only [Act.put, List.getElem_toArray, List.getElem_cons_zero, List.getElem_cons_succ, List.setIfInBounds_toArray, List.set_cons_zero, List.set_cons_succ]; rfl) | rfl) (by first | (simp only [Act.put, List.getElem_toArray, List.getElem_cons_zero, List.getElem_cons_succ, List.setIfInBounds_toArray, List.set_cons_zero, List.set_cons_succ]; rfl) | rfl) HO2D.out (HRD2.out.cut (q + 1) (by have := HML.out; have := HQ.out; omega) _ (fun h => by have := HML.out; have := HQ.out; omega) (by have := HQ.out; omega) (by omega)).src HBS.out (by have := HML.out; have := HL.out; simp; omega) ?_; intro v7 w7 o7 hb7 hk7; have O7 := Lib.hid o7; have C7 : Hid (Below wr.heap.size wr w7) := Lib.hid ((below_drew B2.out).trans hb7); have R7 := Lib.hid (HRW.out.go C7.out); have x0 := ((bcell C7.out).1 b (off + q * 4) HBL.out).trans c0; have x1 := ((bcell C7.out).1 b (off + q * 4 + 1) HBL.out).trans c1; have x2 := ((bcell C7.out).1 b (off + q * 4 + 2) HBL.out).trans c2; have x3 := ((bcell C7.out).1 b (off + q * 4 + 3) HBL.out).trans c3; have d0 := R7.out.cell (j := 0) rfl; have f0 := R7.out.open_ 0; have d1 := R7.out.cell (j := 1) rfl; have f1 := R7.out.open_ 1; have d2 := R7.out.cell (j := 2) rfl; have f2 := R7.out.open_ 2; have d3 := R7.out.cell (j := 3) rfl; have f3 := R7.out.open_ 3; clear o7 hb7 hk7)
          all_goals
            go_wp2
          all_goals
            have BF := Lib.hid (bset (bset (bset (bset (bgo HB0W.out C7.out) w.heap.size 0 (.int .i64 n) (Nat.le_refl _)) w.heap.size 1 (.int .i64 r) (Nat.le_refl _)) w.heap.size 2 (.int .i64 k) (Nat.le_refl _)) w.heap.size 3 (.slice s1 p.length e1) (Nat.le_refl _))
            refine ret_tct rfl rfl rfl rfl rfl (R7.out.set4 _ _ _ _) Try.underlying33 rfl inf_vs ?_
            exact OutX.ok HKK.out HY.out rfl (((((O7.out.keep HSW.out _ _).keep HSW.out _ _).keep HSW.out _ _).keep HSW.out _ _).mono HB0W.out.size) (((HM0.out.below BF.out).take q).app ((HM0.out.below BF.out).drop (q + 1))) (HAT.out _ BF.out) BF.out
        · have hcc2 : q + 1 ≤ cap := by omega
          go_upto_region 6 with (at_builtin; refine wp_appVsk rfl _ _ 22 rfl wr.heap.size [] (M.take q) _ _ rfl rfl (OwnVs.empty _ _) (HRD.out.head q (by have := HML.out; have := HQ.out; omega)).src ?_ ?_ ?_; exact Nat.le_refl _; (have h7 := HML.out; have h8 := HL.out; simp <;> omega); intro v2 w2 ho2 hb2 hk2; have HO2 : Hid (OwnVs wr.heap.size (M.take q) v2 w2) := Lib.hid ho2; have B2 := Lib.hid hb2; clear ho2 hb2 hk2)
          have g0 := ((bcell B2.out).1 b (off + q * 4) hb).trans c0
          have g1 := ((bcell B2.out).1 b (off + q * 4 + 1) hb).trans c1
          have g2 := ((bcell B2.out).1 b (off + q * 4 + 2) hb).trans c2
          have g3 := ((bcell B2.out).1 b (off + q * 4 + 3) hb).trans c3
          have HO2D : Hid (OwnVs wr.heap.size (M.take q) v2 w2.drew) := Lib.hid HO2.out
          have HRD2 : Hid (RdVs M (.slice (some ⟨b, off, none⟩) L.length cap) w2.drew) := Lib.hid (HRD.out.below (below_drew B2.out))
          have HBS : Hid (wr.heap.size ≤ w2.drew.heap.size) := Lib.hid B2.out.size
          have HBL := Lib.hid hb
          go_region_law (refine step_appVsk rfl _ _ 22 rfl wr.heap.size (M.take q) (M.drop (q + 1)) v2 (.slice (some ⟨b, off + (q + 1) * 4, none⟩) (L.length - (q + 1)) (cap - (q + 1))) (by first | (simp only [Act.put, List.getElem_toArray, List.getElem_cons_zero, List.getElem_cons_succ, List.setIfInBounds_toArray, List.set_cons_zero, List.set_cons_succ]; rfl) | rfl) (by first | (simp only [Act.put, List.getElem_toArray, List.getElem_cons_zero, List.getElem_cons_succ, List.setIfInBounds_toArray, List.set_cons_zero, List.set_cons_succ]; rfl) | rfl) HO2D.out (HRD2.out.cut (q + 1) (by have := HML.out; have := HQ.out; omega) _ (fun _ => rfl) (by have := HQ.out; omega) (by omega)).src HBS.out (by have := HML.out; have := HL.out; simp; omega) ?_; intro v7 w7 o7 hb7 hk7; have O7 := Lib.hid o7; have C7 : Hid (Below wr.heap.size wr w7) := Lib.hid ((below_drew B2.out).trans hb7); have R7 := Lib.hid (HRW.out.go C7.out); have x0 := ((bcell C7.out).1 b (off + q * 4) HBL.out).trans c0; have x1 := ((bcell C7.out).1 b (off + q * 4 + 1) HBL.out).trans c1; have x2 := ((bcell C7.out).1 b (off + q * 4 + 2) HBL.out).trans c2; have x3 := ((bcell C7.out).1 b (off + q * 4 + 3) HBL.out).trans c3; have d0 := R7.out.cell (j := 0) rfl; have f0 := R7.out.open_ 0; have d1 := R7.out.cell (j := 1) rfl; have f1 := R7.out.open_ 1; have d2 := R7.out.cell (j := 2) rfl; have f2 := R7.out.open_ 2; have d3 := R7.out.cell (j := 3) rfl; have f3 := R7.out.open_ 3; clear o7 hb7 hk7)
          all_goals
            go_wp2
          all_goals
            have BF := Lib.hid (bset (bset (bset (bset (bgo HB0W.out C7.out) w.heap.size 0 (.int .i64 n) (Nat.le_refl _)) w.heap.size 1 (.int .i64 r) (Nat.le_refl _)) w.heap.size 2 (.int .i64 k) (Nat.le_refl _)) w.heap.size 3 (.slice s1 p.length e1) (Nat.le_refl _))
            refine ret_tct rfl rfl rfl rfl rfl (R7.out.set4 _ _ _ _) Try.underlying33 rfl inf_vs ?_
            exact OutX.ok HKK.out HY.out rfl (((((O7.out.keep HSW.out _ _).keep HSW.out _ _).keep HSW.out _ _).keep HSW.out _ _).mono HB0W.out.size) (((HM0.out.below BF.out).take q).app ((HM0.out.below BF.out).drop (q + 1))) (HAT.out _ BF.out) BF.out
      · have HNX2 := Lib.hid (HNX.out hn)
        clear HNX HN HHIT
        go_wp2
        go_roundw
        case rel => exact ⟨q + 1, by omega, by go_num, HNX2, HB⟩
        case measure => simp [intOf]; omega
    · obtain rfl : q = L.length := by omega
      have HKK := Lib.hid (remK_miss HN.out)
      have HR2 := Lib.hid (HR.out.go HB.out)
      have d0 := HR2.out.cell (j := 0) rfl
      have f0 := HR2.out.open_ 0
      have d1 := HR2.out.cell (j := 1) rfl
      have f1 := HR2.out.open_ 1
      have d2 := HR2.out.cell (j := 2) rfl
      have f2 := HR2.out.open_ 2
      have d3 := HR2.out.cell (j := 3) rfl
      have f3 := HR2.out.open_ 3
      go_wp2
      exact ret_tct rfl rfl rfl rfl rfl (HR2.out.set4 _ _ _ _) Try.underlying33 rfl inf_vs (OutX.miss HKK.out rfl (bset (bset (bset (bset (bgo HB0.out HB.out) _ _ _ (Nat.le_refl _)) _ _ _ (Nat.le_refl _)) _ _ _ (Nat.le_refl _)) _ _ _ (Nat.le_refl _)))
end Go.Proofs.Ytakickggpfbafaa
