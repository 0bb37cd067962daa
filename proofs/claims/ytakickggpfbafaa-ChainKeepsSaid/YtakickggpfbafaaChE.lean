/- The reference's AppendVersion and CloseChain. -/
import Derived.Test.YtakickggpfbafaaChC
namespace Go.Proofs.Ytakickggpfbafaa
open Go.RowKit
set_option linter.unusedVariables false
set_option linter.unusedSimpArgs false
theorem OwnVs.oneS {x : Vs} (hx : x.ok) (w : World) {s : Nat} (hs : w.heap.size = s) : OwnVs s [x] (.slice (some ⟨s, 0, none⟩) 1 1) (w.alloc (.cells #[.int .i64 x.n, .int .i64 x.r, .int .i64 x.k, x.s] 33)) := by
  subst hs
  exact OwnVs.one hx w
/-- A chain, with pages that were there, and an error are answered. -/
def OutR (z : Int) (R : List Vn) (w : World) (e : Ending) (w' : World) : Prop := ∃ v' M', e = .returned (.tuple #[v', .int .i64 z]) ∧ OwnVs w.heap.size M' v' w' ∧ VmAt 0 M' R w' ∧ Below w.heap.size w w'
theorem OutR.none {z : Int} {w w' : World} {e : Ending} (he : e = .returned (.tuple #[.slice none 0 0, .int .i64 z])) (hb : Below w.heap.size w w') : OutR z [] w e w' := ⟨_, [], he, OwnVs.empty _ _, trivial, hb⟩
section
variable (M : List Vs) (L : List Vn) (u : Value) (n r k : Int) (s : Value) (p : List Int) (w : World)
set_option maxRecDepth 100000 in
set_option maxHeartbeats 4000000 in
theorem rapp_bad (hv : RdVs M u w) (hm : VmAt 0 M L w) (hL : L.length ≤ 1000) (hs : OwnI 0 p s w) (z : Int) (hz : valV L = z) (h0 : z ≠ 0) :
    Calls Try.prog 14 #[u, .agg #[.int .i64 n, .int .i64 r, .int .i64 k, s]] w fun e w' => e = .returned (.tuple #[.slice none 0 0, .int .i64 z]) ∧ Below w.heap.size w w' := by
  have hval := fun (w' : World) (hb : Below w.heap.size w w') => rvalc_any M u w' (hv.below hb) (by have := hm.len; omega)
  rw [hm.val, hz] at hval
  obtain ⟨a, cap, rfl⟩ := hv.shape
  have HVAL := Lib.hid hval
  obtain ⟨sa, sc, rfl⟩ := hs.rd.shape
  clear hv hm hval hs
  go_enter Try.func14, Try.ntmps14
  go_wp2_with (go_at_call 12; refine (HVAL.out _ (b1 _)).mono ?_; rintro e w1 ⟨rfl, hb1⟩; obtain ⟨c0, c1, c2, c3⟩ := vs_box (w := w) (by simpa using hb1); have B1 := Lib.hid (bgo (b1 _) hb1); have BX := Lib.hid hb1; have hwl : w.heap.size < w1.heap.size := Nat.lt_of_lt_of_le (by simp) hb1.size; clear hb1)
  go_ret2
  exact ⟨rfl, B1.out⟩
set_option maxRecDepth 100000 in
set_option maxHeartbeats 4000000 in
theorem rapp_rng (hv : RdVs M u w) (hm : VmAt 0 M L w) (hL : L.length ≤ 1000) (hs : OwnI 0 p s w) (hz : valV L = 0) (h0 : n < 1 ∨ k < 0 ∨ r ≠ 0) :
    Calls Try.prog 14 #[u, .agg #[.int .i64 n, .int .i64 r, .int .i64 k, s]] w fun e w' => e = .returned (.tuple #[.slice none 0 0, .int .i64 5]) ∧ Below w.heap.size w w' := by
  have hval := fun (w' : World) (hb : Below w.heap.size w w') => rvalc_any M u w' (hv.below hb) (by have := hm.len; omega)
  rw [hm.val, hz] at hval
  obtain ⟨a, cap, rfl⟩ := hv.shape
  have HVAL := Lib.hid hval
  obtain ⟨sa, sc, rfl⟩ := hs.rd.shape
  clear hv hm hval hs
  by_cases g1 : n < 1
  · clear h0
    go_enter Try.func14, Try.ntmps14
    go_wp2_with (go_at_call 12; refine (HVAL.out _ (b1 _)).mono ?_; rintro e w1 ⟨rfl, hb1⟩; obtain ⟨c0, c1, c2, c3⟩ := vs_box (w := w) (by simpa using hb1); have B1 := Lib.hid (bgo (b1 _) hb1); have BX := Lib.hid hb1; have hwl : w.heap.size < w1.heap.size := Nat.lt_of_lt_of_le (by simp) hb1.size; clear hb1)
    go_ret2
    exact ⟨rfl, B1.out⟩
  · by_cases g2 : k < 0
    · clear h0
      go_enter Try.func14, Try.ntmps14
      go_wp2_with (go_at_call 12; refine (HVAL.out _ (b1 _)).mono ?_; rintro e w1 ⟨rfl, hb1⟩; obtain ⟨c0, c1, c2, c3⟩ := vs_box (w := w) (by simpa using hb1); have B1 := Lib.hid (bgo (b1 _) hb1); have BX := Lib.hid hb1; have hwl : w.heap.size < w1.heap.size := Nat.lt_of_lt_of_le (by simp) hb1.size; clear hb1)
      go_ret2
      exact ⟨rfl, B1.out⟩
    · have g3 : ¬ r = 0 := by omega
      have g4 : (r != 0) = true := by simpa using g3
      clear h0
      go_enter Try.func14, Try.ntmps14
      go_wp2_with (go_at_call 12; refine (HVAL.out _ (b1 _)).mono ?_; rintro e w1 ⟨rfl, hb1⟩; obtain ⟨c0, c1, c2, c3⟩ := vs_box (w := w) (by simpa using hb1); have B1 := Lib.hid (bgo (b1 _) hb1); have BX := Lib.hid hb1; have hwl : w.heap.size < w1.heap.size := Nat.lt_of_lt_of_le (by simp) hb1.size; clear hb1)
      go_ret2
      exact ⟨rfl, B1.out⟩
set_option maxRecDepth 100000 in
set_option maxHeartbeats 4000000 in
theorem rapp_nil (hv : RdVs M u w) (hm : VmAt 0 M L w) (hL : L.length ≤ 1000) (hs : OwnI 0 p s w) (hz : valV L = 0) (h0 : 1 ≤ n ∧ n ≤ 9223372036854775807) (h1 : 0 ≤ k ∧ k ≤ 9223372036854775807) (hr : r = 0) (hl : L.length = 0) :
    Calls Try.prog 14 #[u, .agg #[.int .i64 n, .int .i64 r, .int .i64 k, s]] w fun e w' => OutR 0 [⟨n, r, k, p⟩] w e w' := by
  have hval := fun (w' : World) (hb : Below w.heap.size w w') => rvalc_any M u w' (hv.below hb) (by have := hm.len; omega)
  rw [hm.val, hz] at hval
  obtain ⟨a, cap, rfl⟩ := hv.shape
  have HVAL := Lib.hid hval
  have HRD := Lib.hid (fun (w' : World) (hb : Below w.heap.size w w') => hv.below hb)
  have HPM := Lib.hid (fun (w' : World) (hb : Below w.heap.size w w') => hm.below hb)
  have HPS := Lib.hid (fun (w' : World) (hb : Below w.heap.size w w') => hs.below hb)
  obtain ⟨sa, sc, rfl⟩ := hs.rd.shape
  have g1 : ¬ n < 1 := by omega
  have g2 : ¬ k < 0 := by omega
  subst hr
  have HL := Lib.hid hL
  have HX : Hid (Vs.ok ⟨n, 0, k, .slice sa p.length sc⟩) := Lib.hid ⟨by show -9223372036854775808 ≤ n ∧ n ≤ 9223372036854775807; omega, by show (-9223372036854775808 : Int) ≤ 0 ∧ (0 : Int) ≤ 9223372036854775807; decide, by show -9223372036854775808 ≤ k ∧ k ≤ 9223372036854775807; omega, _, _, _, rfl⟩
  have hml := hm.len
  have hM : M = [] := List.eq_nil_of_length_eq_zero (by omega)
  subst hM
  have HML := Lib.hid hml
  simp only [List.length_nil] at HVAL HRD ⊢
  clear hv hm hval hs h0 h1 hml
  go_enter Try.func14, Try.ntmps14
  go_upto_region 7 with (first
    | (go_at_call 12; refine (HVAL.out _ (b1 _)).mono ?_; rintro e w1 ⟨rfl, hb1⟩; obtain ⟨c0, c1, c2, c3⟩ := vs_box (w := w) (by simpa using hb1); have B1 := Lib.hid (bgo (b1 _) hb1); have BX := Lib.hid hb1; have hwl : w.heap.size < w1.heap.size := Nat.lt_of_lt_of_le (by simp) hb1.size; have BX0 := Lib.hid hb1.size; clear hb1)
    | (at_builtin; refine wp_appVsk rfl _ _ 22 rfl w1.heap.size [] [] _ _ rfl rfl (OwnVs.empty _ _) (HRD.out _ B1.out).src ?_ ?_ ?_; exact Nat.le_refl _; (have h7 := HL.out; have h8 := HML.out; simp <;> omega); intro v2 w2 ho2 hb2 hk2; have HO2 : Hid (OwnVs w1.heap.size [] v2 w2) := Lib.hid ho2; have B2 := Lib.hid (bgo B1.out hb2); have BX2 := Lib.hid (BX.out.trans (hb2.mono BX0.out)); obtain ⟨d0, d1, d2, d3⟩ := vs_box (w := w) (by simpa using BX2.out); clear ho2 hb2 hk2))
  have h3 := HO2.out
  obtain ⟨a2, c2', rfl⟩ := h3.rd.shape
  clear h3
  simp only [List.length_nil]
  go_wp2_with (at_builtin; refine wp_appVsk rfl _ _ 22 rfl w.heap.size [] [⟨n, 0, k, .slice sa p.length sc⟩] _ _ rfl rfl ((HO2.out.mono B1.out.size).alloc _) (OwnVs.one HX.out w2).rd.src ?_ ?_ ?_; (have := B2.out.size; simp; omega); (have h7 := HL.out; have h8 := HML.out; simp <;> omega); intro v5 w5 ho5 hb5 hk5; have HO5 := Lib.hid ho5; have B5 := Lib.hid ((bal B2.out _).trans hb5); clear ho5 hb5 hk5)
  go_ret2
  refine ⟨_, _, rfl, HO5.out, ?_, B5.out⟩
  exact ⟨⟨rfl, rfl, rfl, HPS.out _ B5.out⟩, trivial⟩
set_option maxRecDepth 100000 in
set_option maxHeartbeats 4000000 in
theorem rapp_ord (hv : RdVs M u w) (hm : VmAt 0 M L w) (hL : L.length ≤ 1000) (hs : OwnI 0 p s w) (hz : valV L = 0) (h0 : 1 ≤ n) (h1 : 0 ≤ k) (hr : r = 0) (hl : 0 < L.length) (ho : n ≤ (lastV L).n ∨ n < (lastV L).r) :
    Calls Try.prog 14 #[u, .agg #[.int .i64 n, .int .i64 r, .int .i64 k, s]] w fun e w' => e = .returned (.tuple #[.slice none 0 0, .int .i64 19]) ∧ Below w.heap.size w w' := by
  have hval := fun (w' : World) (hb : Below w.heap.size w w') => rvalc_any M u w' (hv.below hb) (by have := hm.len; omega)
  rw [hm.val, hz] at hval
  obtain ⟨a, cap, rfl⟩ := hv.shape
  have HVAL := Lib.hid hval
  have HRD := Lib.hid (fun (w' : World) (hb : Below w.heap.size w w') => hv.below hb)
  have HPM := Lib.hid (fun (w' : World) (hb : Below w.heap.size w w') => hm.below hb)
  have HPS := Lib.hid (fun (w' : World) (hb : Below w.heap.size w w') => hs.below hb)
  obtain ⟨sa, sc, rfl⟩ := hs.rd.shape
  have g1 : ¬ n < 1 := by omega
  have g2 : ¬ k < 0 := by omega
  subst hr
  have HL := Lib.hid hL
  obtain ⟨N, hN⟩ : ∃ N, L.length = N + 1 := ⟨L.length - 1, by omega⟩
  have hlt : N < L.length := by omega
  have hml := hm.len
  have hat := hm.at_ hlt
  have hcl := fun (w' : World) (hb : Below w.heap.size w w') => (hv.below hb).at_ (show N < M.length by omega)
  have hlk : lastV L = L.getD N Vn.z := by unfold lastV; rw [hN, Nat.add_sub_cancel]
  rw [hlk] at ho
  have HLK := Lib.hid hlk
  generalize hy : L.getD N Vn.z = y at *
  generalize hxy : M.getD N Vs.z = x at *
  obtain ⟨xn, xr, xk, xs⟩ := x
  obtain ⟨yn, yr, yk, yp⟩ := y
  obtain ⟨e1, e2, e3, hown⟩ := hat
  have e1 : xn = yn := e1
  have e2 : xr = yr := e2
  have e3 : xk = yk := e3
  subst e1 e2 e3
  have hown : OwnI 0 yp xs w := hown
  obtain ⟨xa, xc, rfl⟩ := hown.rd.shape
  have HCL : Hid (∀ w' : World, Below w.heap.size w w' → ∃ b off, a = some ⟨b, off, none⟩ ∧ b < w'.heap.size ∧ w'.cell? ⟨b, off + N * 4, none⟩ = some (.int .i64 xn) ∧ w'.cell? ⟨b, off + N * 4 + 1, none⟩ = some (.int .i64 xr) ∧ w'.cell? ⟨b, off + N * 4 + 2, none⟩ = some (.int .i64 xk) ∧ w'.cell? ⟨b, off + N * 4 + 3, none⟩ = some (.slice xa yp.length xc)) := Lib.hid hcl
  have hj1 : IntKind.i64.wrap ((L.length : Int) - 1) = (N : Int) := by rw [IntKind.wrap_i64]; omega
  have hj4 : wrap64 ((L.length : Int) - 1) = (N : Int) := by unfold wrap64; omega
  have hj3 : (N : Int) < (L.length : Int) := by omega
  have hj5 : (0 : Int) < (L.length : Int) := by omega
  have hj6 : ¬ ((L.length : Int) = 0) := by omega
  have HML := Lib.hid hml
  have HY := Lib.hid hy
  clear hy
  have HXY := Lib.hid hxy
  clear hxy
  have hj9 : IntKind.i64.wrap (N : Int) = (N : Int) := by rw [IntKind.wrap_i64]; omega
  have HN := Lib.hid hN
  have ho : n ≤ xn ∨ n < xr := ho
  rw [hml] at HVAL HRD ⊢
  clear hv hm hval hs h0 h1 hml hcl hown hlk hN hl
  by_cases g3 : n ≤ xn
  · clear ho
    go_enter Try.func14, Try.ntmps14
    go_upto_region 7 with (first
      | (go_at_call 12; refine (HVAL.out _ (b1 _)).mono ?_; rintro e w1 ⟨rfl, hb1⟩; obtain ⟨c0, c1, c2, c3⟩ := vs_box (w := w) (by simpa using hb1); have B1 := Lib.hid (bgo (b1 _) hb1); have BX := Lib.hid hb1; have hwl : w.heap.size < w1.heap.size := Nat.lt_of_lt_of_le (by simp) hb1.size; have BX0 := Lib.hid hb1.size; clear hb1)
      | (at_builtin; refine wp_appVsk rfl _ _ 22 rfl w1.heap.size [] M _ _ rfl rfl (OwnVs.empty _ _) (HRD.out _ B1.out).src ?_ ?_ ?_; exact Nat.le_refl _; (have h7 := HL.out; have h8 := HML.out; simp <;> omega); intro v2 w2 ho2 hb2 hk2; have HO2 : Hid (OwnVs w1.heap.size M v2 w2) := Lib.hid ho2; have B2 := Lib.hid (bgo B1.out hb2); have BX2 := Lib.hid (BX.out.trans (hb2.mono BX0.out)); obtain ⟨d0, d1, d2, d3⟩ := vs_box (w := w) (by simpa using BX2.out); clear ho2 hb2 hk2))
    have h3 := HO2.out
    obtain ⟨a2, c2', rfl⟩ := h3.rd.shape
    obtain ⟨g, rfl, hg, hg2, -, -, -⟩ := h3.block (by have := HML.out; omega)
    have HG := Lib.hid hg
    have HNM : Hid (N < M.length) := Lib.hid (by have := HML.out; omega)
    obtain ⟨e0, e1, -, -⟩ := h3.cellsAt HNM.out
    rw [HXY.out] at e0 e1
    have e0 : w2.cell? ⟨g, N * 4, none⟩ = some (.int .i64 xn) := e0
    have e1 : w2.cell? ⟨g, N * 4 + 1, none⟩ = some (.int .i64 xr) := e1
    clear h3 hg
    rw [HML.out]
    go_upto_region 9 with fail
    go_quiet (fail)
    go_wp2
    go_ret2
    exact ⟨rfl, below_drewN B2.out _⟩
  · have g4 : n < xr := by omega
    clear ho
    go_enter Try.func14, Try.ntmps14
    go_upto_region 7 with (first
      | (go_at_call 12; refine (HVAL.out _ (b1 _)).mono ?_; rintro e w1 ⟨rfl, hb1⟩; obtain ⟨c0, c1, c2, c3⟩ := vs_box (w := w) (by simpa using hb1); have B1 := Lib.hid (bgo (b1 _) hb1); have BX := Lib.hid hb1; have hwl : w.heap.size < w1.heap.size := Nat.lt_of_lt_of_le (by simp) hb1.size; have BX0 := Lib.hid hb1.size; clear hb1)
      | (at_builtin; refine wp_appVsk rfl _ _ 22 rfl w1.heap.size [] M _ _ rfl rfl (OwnVs.empty _ _) (HRD.out _ B1.out).src ?_ ?_ ?_; exact Nat.le_refl _; (have h7 := HL.out; have h8 := HML.out; simp <;> omega); intro v2 w2 ho2 hb2 hk2; have HO2 : Hid (OwnVs w1.heap.size M v2 w2) := Lib.hid ho2; have B2 := Lib.hid (bgo B1.out hb2); have BX2 := Lib.hid (BX.out.trans (hb2.mono BX0.out)); obtain ⟨d0, d1, d2, d3⟩ := vs_box (w := w) (by simpa using BX2.out); clear ho2 hb2 hk2))
    have h3 := HO2.out
    obtain ⟨a2, c2', rfl⟩ := h3.rd.shape
    obtain ⟨g, rfl, hg, hg2, -, -, -⟩ := h3.block (by have := HML.out; omega)
    have HG := Lib.hid hg
    have HNM : Hid (N < M.length) := Lib.hid (by have := HML.out; omega)
    obtain ⟨e0, e1, -, -⟩ := h3.cellsAt HNM.out
    rw [HXY.out] at e0 e1
    have e0 : w2.cell? ⟨g, N * 4, none⟩ = some (.int .i64 xn) := e0
    have e1 : w2.cell? ⟨g, N * 4 + 1, none⟩ = some (.int .i64 xr) := e1
    clear h3 hg
    rw [HML.out]
    go_upto_region 9 with fail
    go_quiet (fail)
    go_wp2
    go_ret2
    exact ⟨rfl, below_drewN B2.out _⟩
set_option maxRecDepth 100000 in
set_option maxHeartbeats 4000000 in
theorem rapp_ok (hv : RdVs M u w) (hm : VmAt 0 M L w) (hL : L.length ≤ 1000) (hs : OwnI 0 p s w) (hz : valV L = 0) (h0 : 1 ≤ n ∧ n ≤ 9223372036854775807) (h1 : 0 ≤ k ∧ k ≤ 9223372036854775807) (hr : r = 0) (hl : 0 < L.length) (ho : ¬ (n ≤ (lastV L).n ∨ n < (lastV L).r)) :
    Calls Try.prog 14 #[u, .agg #[.int .i64 n, .int .i64 r, .int .i64 k, s]] w fun e w' => OutR 0 (endV L n ++ [⟨n, r, k, p⟩]) w e w' := by
  have hval := fun (w' : World) (hb : Below w.heap.size w w') => rvalc_any M u w' (hv.below hb) (by have := hm.len; omega)
  rw [hm.val, hz] at hval
  obtain ⟨a, cap, rfl⟩ := hv.shape
  have HVAL := Lib.hid hval
  have HRD := Lib.hid (fun (w' : World) (hb : Below w.heap.size w w') => hv.below hb)
  have HPM := Lib.hid (fun (w' : World) (hb : Below w.heap.size w w') => hm.below hb)
  have HPS := Lib.hid (fun (w' : World) (hb : Below w.heap.size w w') => hs.below hb)
  obtain ⟨sa, sc, rfl⟩ := hs.rd.shape
  have g1 : ¬ n < 1 := by omega
  have g2 : ¬ k < 0 := by omega
  subst hr
  have HL := Lib.hid hL
  have HX : Hid (Vs.ok ⟨n, 0, k, .slice sa p.length sc⟩) := Lib.hid ⟨by show -9223372036854775808 ≤ n ∧ n ≤ 9223372036854775807; omega, by show (-9223372036854775808 : Int) ≤ 0 ∧ (0 : Int) ≤ 9223372036854775807; decide, by show -9223372036854775808 ≤ k ∧ k ≤ 9223372036854775807; omega, _, _, _, rfl⟩
  obtain ⟨N, hN⟩ : ∃ N, L.length = N + 1 := ⟨L.length - 1, by omega⟩
  have hlt : N < L.length := by omega
  have hml := hm.len
  have hat := hm.at_ hlt
  have hcl := fun (w' : World) (hb : Below w.heap.size w w') => (hv.below hb).at_ (show N < M.length by omega)
  have hlk : lastV L = L.getD N Vn.z := by unfold lastV; rw [hN, Nat.add_sub_cancel]
  rw [hlk] at ho
  have HLK := Lib.hid hlk
  generalize hy : L.getD N Vn.z = y at *
  generalize hxy : M.getD N Vs.z = x at *
  obtain ⟨xn, xr, xk, xs⟩ := x
  obtain ⟨yn, yr, yk, yp⟩ := y
  obtain ⟨e1, e2, e3, hown⟩ := hat
  have e1 : xn = yn := e1
  have e2 : xr = yr := e2
  have e3 : xk = yk := e3
  subst e1 e2 e3
  have hown : OwnI 0 yp xs w := hown
  obtain ⟨xa, xc, rfl⟩ := hown.rd.shape
  have HCL : Hid (∀ w' : World, Below w.heap.size w w' → ∃ b off, a = some ⟨b, off, none⟩ ∧ b < w'.heap.size ∧ w'.cell? ⟨b, off + N * 4, none⟩ = some (.int .i64 xn) ∧ w'.cell? ⟨b, off + N * 4 + 1, none⟩ = some (.int .i64 xr) ∧ w'.cell? ⟨b, off + N * 4 + 2, none⟩ = some (.int .i64 xk) ∧ w'.cell? ⟨b, off + N * 4 + 3, none⟩ = some (.slice xa yp.length xc)) := Lib.hid hcl
  have hj1 : IntKind.i64.wrap ((L.length : Int) - 1) = (N : Int) := by rw [IntKind.wrap_i64]; omega
  have hj4 : wrap64 ((L.length : Int) - 1) = (N : Int) := by unfold wrap64; omega
  have hj3 : (N : Int) < (L.length : Int) := by omega
  have hj5 : (0 : Int) < (L.length : Int) := by omega
  have hj6 : ¬ ((L.length : Int) = 0) := by omega
  have HML := Lib.hid hml
  have HY := Lib.hid hy
  clear hy
  have HXY := Lib.hid hxy
  clear hxy
  have hj9 : IntKind.i64.wrap (N : Int) = (N : Int) := by rw [IntKind.wrap_i64]; omega
  have HN := Lib.hid hN
  have ho : ¬ (n ≤ xn ∨ n < xr) := ho
  have g3 : ¬ n ≤ xn := fun h => ho (.inl h)
  have g4 : ¬ n < xr := fun h => ho (.inr h)
  have HNB := Lib.hid h0
  rw [hml] at HVAL HRD ⊢
  clear hv hm hval hs h0 h1 hml hcl hown hlk hN hl ho
  go_enter Try.func14, Try.ntmps14
  go_upto_region 7 with (first
    | (go_at_call 12; refine (HVAL.out _ (b1 _)).mono ?_; rintro e w1 ⟨rfl, hb1⟩; obtain ⟨c0, c1, c2, c3⟩ := vs_box (w := w) (by simpa using hb1); have B1 := Lib.hid (bgo (b1 _) hb1); have BX := Lib.hid hb1; have hwl : w.heap.size < w1.heap.size := Nat.lt_of_lt_of_le (by simp) hb1.size; have BX0 := Lib.hid hb1.size; clear hb1)
    | (at_builtin; refine wp_appVsk rfl _ _ 22 rfl w1.heap.size [] M _ _ rfl rfl (OwnVs.empty _ _) (HRD.out _ B1.out).src ?_ ?_ ?_; exact Nat.le_refl _; (have h7 := HL.out; have h8 := HML.out; simp <;> omega); intro v2 w2 ho2 hb2 hk2; have HO2 : Hid (OwnVs w1.heap.size M v2 w2) := Lib.hid ho2; have B2 := Lib.hid (bgo B1.out hb2); have BX2 := Lib.hid (BX.out.trans (hb2.mono BX0.out)); obtain ⟨d0, d1, d2, d3⟩ := vs_box (w := w) (by simpa using BX2.out); clear ho2 hb2 hk2))
  have h3 := HO2.out
  obtain ⟨a2, c2', rfl⟩ := h3.rd.shape
  obtain ⟨g, rfl, hg, hg2, -, -, -⟩ := h3.block (by have := HML.out; omega)
  have HG := Lib.hid hg
  have HNM : Hid (N < M.length) := Lib.hid (by have := HML.out; omega)
  obtain ⟨e0, e1, -, -⟩ := h3.cellsAt HNM.out
  rw [HXY.out] at e0 e1
  have e0 : w2.cell? ⟨g, N * 4, none⟩ = some (.int .i64 xn) := e0
  have e1 : w2.cell? ⟨g, N * 4 + 1, none⟩ = some (.int .i64 xr) := e1
  clear h3 hg
  have hf5 := HO2.out.frozen (N * 4 + 1)
  have HST := Lib.hid (fun m => (HO2.out.drewN m).storedC HNM.out (c := n) ⟨by have := HNB.out; omega, HNB.out.2⟩)
  rw [HXY.out] at HST
  have HAT := Lib.hid (fun (w' : World) (hb : Below w.heap.size w w') => ((HPM.out w' hb).at_ hlt).2.2.2)
  rw [HXY.out, HY.out] at HAT
  have BS := Lib.hid (fun m => bset (below_drewN B2.out m) g (N * 4 + 1) (.int .i64 n) (Nat.le_trans B1.out.size HG.out))
  have HO4 := HO2
  rw [HML.out] at HST HO4
  have hgw : ¬ (g = w.heap.size) := by have := HG.out; omega
  have hgw2 : ¬ (w.heap.size = g) := fun h => hgw h.symm
  rw [HML.out]
  go_upto_region 9 with fail
  go_quiet (fail)
  go_upto_region 11 with fail
  by_cases hx0 : xr = 0
  · have HE : Hid (endV L n = L.set N ⟨xn, n, xk, yp⟩) := Lib.hid (by
      unfold endV; rw [HLK.out, if_pos hx0, HN.out, Nat.add_sub_cancel])
    subst hx0
    go_wp2_with (at_builtin; refine wp_appVsk rfl _ _ 22 rfl w.heap.size (M.set N ⟨xn, n, xk, .slice xa yp.length xc⟩) [⟨n, 0, k, .slice sa p.length sc⟩] _ _ rfl rfl (((HST.out _).mono B1.out.size).alloc _) (OwnVs.oneS HX.out _ (by simp)).rd.src ?_ ?_ ?_; (have := B2.out.size; simp; omega); (have h7 := HL.out; have h8 := HML.out; simp <;> omega); intro v5 w5 ho5 hb5 hk5; have HO5 := Lib.hid ho5; have B5 := Lib.hid ((bal (BS.out _) _).trans hb5); clear ho5 hb5 hk5)
    go_ret2
    refine ⟨_, _, rfl, HO5.out, ?_, B5.out⟩
    rw [HE.out]
    exact ((HPM.out _ B5.out).set N (m := ⟨xn, n, xk, .slice xa yp.length xc⟩) (p := ⟨xn, n, xk, yp⟩) ⟨rfl, rfl, rfl, HAT.out _ B5.out⟩).snoc ⟨rfl, rfl, rfl, HPS.out _ B5.out⟩
  · have HE : Hid (endV L n = L) := Lib.hid (by unfold endV; rw [HLK.out, if_neg hx0])
    have hx1 : (xr == 0) = false := by simpa using hx0
    go_wp2_with (at_builtin; refine wp_appVsk rfl _ _ 22 rfl w.heap.size M [⟨n, 0, k, .slice sa p.length sc⟩] _ _ rfl rfl (((HO4.out.drewN _).mono B1.out.size).alloc _) (OwnVs.oneS HX.out _ (by simp)).rd.src ?_ ?_ ?_; (have := B2.out.size; simp; omega); (have h7 := HL.out; have h8 := HML.out; simp <;> omega); intro v5 w5 ho5 hb5 hk5; have HO5 := Lib.hid ho5; have B5 := Lib.hid ((bal (below_drewN B2.out _) _).trans hb5); clear ho5 hb5 hk5)
    go_ret2
    refine ⟨_, _, rfl, HO5.out, ?_, B5.out⟩
    rw [HE.out]
    exact (HPM.out _ B5.out).snoc ⟨rfl, rfl, rfl, HPS.out _ B5.out⟩
end
section
variable (M : List Vs) (L : List Vn) (u : Value) (c : Int) (w : World)
set_option maxRecDepth 100000 in
set_option maxHeartbeats 4000000 in
theorem rclo_bad (hv : RdVs M u w) (hm : VmAt 0 M L w) (hL : L.length ≤ 1000) (z : Int) (hz : valV L = z) (h0 : z ≠ 0) :
    Calls Try.prog 16 #[u, .int .i64 c] w fun e w' => e = .returned (.tuple #[.slice none 0 0, .int .i64 z]) ∧ Below w.heap.size w w' := by
  have hval := fun (w' : World) (hb : Below w.heap.size w w') => rvalc_any M u w' (hv.below hb) (by have := hm.len; omega)
  rw [hm.val, hz] at hval
  obtain ⟨a, cap, rfl⟩ := hv.shape
  have HVAL := Lib.hid hval
  clear hv hm hval
  go_enter Try.func16, Try.ntmps16
  go_wp2_with (go_at_call 12; refine (HVAL.out _ (Below.refl _ _)).mono ?_; rintro e w1 ⟨rfl, hb1⟩; have B1 := Lib.hid hb1; clear hb1)
  go_ret2
  exact ⟨rfl, B1.out⟩
set_option maxRecDepth 100000 in
set_option maxHeartbeats 4000000 in
theorem rclo_nil (hv : RdVs M u w) (hm : VmAt 0 M L w) (hL : L.length ≤ 1000) (hz : valV L = 0) (hl : L.length = 0) :
    Calls Try.prog 16 #[u, .int .i64 c] w fun e w' => e = .returned (.tuple #[.slice none 0 0, .int .i64 17]) ∧ Below w.heap.size w w' := by
  have hval := fun (w' : World) (hb : Below w.heap.size w w') => rvalc_any M u w' (hv.below hb) (by have := hm.len; omega)
  rw [hm.val, hz] at hval
  obtain ⟨a, cap, rfl⟩ := hv.shape
  have HVAL := Lib.hid hval
  have hml := hm.len
  rw [hml, hl] at HVAL ⊢
  clear hv hm hval hml
  go_enter Try.func16, Try.ntmps16
  go_wp2_with (go_at_call 12; refine (HVAL.out _ (Below.refl _ _)).mono ?_; rintro e w1 ⟨rfl, hb1⟩; have B1 := Lib.hid hb1; clear hb1)
  go_ret2
  exact ⟨rfl, B1.out⟩
set_option maxRecDepth 100000 in
set_option maxHeartbeats 4000000 in
theorem rclo_sta (hv : RdVs M u w) (hm : VmAt 0 M L w) (hL : L.length ≤ 1000) (hz : valV L = 0) (hl : 0 < L.length) (ho : (lastV L).r ≠ 0) :
    Calls Try.prog 16 #[u, .int .i64 c] w fun e w' => e = .returned (.tuple #[.slice none 0 0, .int .i64 17]) ∧ Below w.heap.size w w' := by
  have hval := fun (w' : World) (hb : Below w.heap.size w w') => rvalc_any M u w' (hv.below hb) (by have := hm.len; omega)
  rw [hm.val, hz] at hval
  obtain ⟨a, cap, rfl⟩ := hv.shape
  have HVAL := Lib.hid hval
  obtain ⟨N, hN⟩ : ∃ N, L.length = N + 1 := ⟨L.length - 1, by omega⟩
  have hlt : N < L.length := by omega
  have hml := hm.len
  have hat := hm.at_ hlt
  have hcl := fun (w' : World) (hb : Below w.heap.size w w') => (hv.below hb).at_ (show N < M.length by omega)
  have hlk : lastV L = L.getD N Vn.z := by unfold lastV; rw [hN, Nat.add_sub_cancel]
  rw [hlk] at ho
  have HLK := Lib.hid hlk
  generalize hy : L.getD N Vn.z = y at *
  generalize M.getD N Vs.z = x at *
  obtain ⟨xn, xr, xk, xs⟩ := x
  obtain ⟨yn, yr, yk, yp⟩ := y
  obtain ⟨e1, e2, e3, hown⟩ := hat
  have e1 : xn = yn := e1
  have e2 : xr = yr := e2
  have e3 : xk = yk := e3
  subst e1 e2 e3
  have hown : OwnI 0 yp xs w := hown
  obtain ⟨xa, xc, rfl⟩ := hown.rd.shape
  have HCL : Hid (∀ w' : World, Below w.heap.size w w' → ∃ b off, a = some ⟨b, off, none⟩ ∧ b < w'.heap.size ∧ w'.cell? ⟨b, off + N * 4, none⟩ = some (.int .i64 xn) ∧ w'.cell? ⟨b, off + N * 4 + 1, none⟩ = some (.int .i64 xr) ∧ w'.cell? ⟨b, off + N * 4 + 2, none⟩ = some (.int .i64 xk) ∧ w'.cell? ⟨b, off + N * 4 + 3, none⟩ = some (.slice xa yp.length xc)) := Lib.hid hcl
  have hj1 : IntKind.i64.wrap ((L.length : Int) - 1) = (N : Int) := by rw [IntKind.wrap_i64]; omega
  have hj4 : wrap64 ((L.length : Int) - 1) = (N : Int) := by unfold wrap64; omega
  have hj3 : (N : Int) < (L.length : Int) := by omega
  have hj5 : (0 : Int) < (L.length : Int) := by omega
  have hj6 : ¬ ((L.length : Int) = 0) := by omega
  have HML := Lib.hid hml
  have HY := Lib.hid hy
  clear hy
  have HN := Lib.hid hN
  have ho : ¬ xr = 0 := ho
  have ho2 : (xr != 0) = true := by simpa using ho
  have ho3 : ((L.length : Int) == 0) = false := by simpa using hj6
  rw [hml] at HVAL ⊢
  clear hv hm hval hml hcl hown hlk hN hl
  go_enter Try.func16, Try.ntmps16
  go_upto_region 5 with (go_at_call 12; refine (HVAL.out _ (Below.refl _ _)).mono ?_; rintro e w1 ⟨rfl, hb1⟩; have B1 := Lib.hid hb1; clear hb1)
  obtain ⟨b, off, rfl, -, l0, l1, l2, l3⟩ := HCL.out w1 B1.out
  go_wp2
  go_ret2
  exact ⟨rfl, B1.out⟩
set_option maxRecDepth 100000 in
set_option maxHeartbeats 4000000 in
theorem rclo_ord (hv : RdVs M u w) (hm : VmAt 0 M L w) (hL : L.length ≤ 1000) (hz : valV L = 0) (hl : 0 < L.length) (ho : (lastV L).r = 0) (hc : c ≤ (lastV L).n) :
    Calls Try.prog 16 #[u, .int .i64 c] w fun e w' => e = .returned (.tuple #[.slice none 0 0, .int .i64 19]) ∧ Below w.heap.size w w' := by
  have hval := fun (w' : World) (hb : Below w.heap.size w w') => rvalc_any M u w' (hv.below hb) (by have := hm.len; omega)
  rw [hm.val, hz] at hval
  obtain ⟨a, cap, rfl⟩ := hv.shape
  have HVAL := Lib.hid hval
  obtain ⟨N, hN⟩ : ∃ N, L.length = N + 1 := ⟨L.length - 1, by omega⟩
  have hlt : N < L.length := by omega
  have hml := hm.len
  have hat := hm.at_ hlt
  have hcl := fun (w' : World) (hb : Below w.heap.size w w') => (hv.below hb).at_ (show N < M.length by omega)
  have hlk : lastV L = L.getD N Vn.z := by unfold lastV; rw [hN, Nat.add_sub_cancel]
  rw [hlk] at ho
  rw [hlk] at hc
  have HLK := Lib.hid hlk
  generalize hy : L.getD N Vn.z = y at *
  generalize M.getD N Vs.z = x at *
  obtain ⟨xn, xr, xk, xs⟩ := x
  obtain ⟨yn, yr, yk, yp⟩ := y
  obtain ⟨e1, e2, e3, hown⟩ := hat
  have e1 : xn = yn := e1
  have e2 : xr = yr := e2
  have e3 : xk = yk := e3
  subst e1 e2 e3
  have hown : OwnI 0 yp xs w := hown
  obtain ⟨xa, xc, rfl⟩ := hown.rd.shape
  have HCL : Hid (∀ w' : World, Below w.heap.size w w' → ∃ b off, a = some ⟨b, off, none⟩ ∧ b < w'.heap.size ∧ w'.cell? ⟨b, off + N * 4, none⟩ = some (.int .i64 xn) ∧ w'.cell? ⟨b, off + N * 4 + 1, none⟩ = some (.int .i64 xr) ∧ w'.cell? ⟨b, off + N * 4 + 2, none⟩ = some (.int .i64 xk) ∧ w'.cell? ⟨b, off + N * 4 + 3, none⟩ = some (.slice xa yp.length xc)) := Lib.hid hcl
  have hj1 : IntKind.i64.wrap ((L.length : Int) - 1) = (N : Int) := by rw [IntKind.wrap_i64]; omega
  have hj4 : wrap64 ((L.length : Int) - 1) = (N : Int) := by unfold wrap64; omega
  have hj3 : (N : Int) < (L.length : Int) := by omega
  have hj5 : (0 : Int) < (L.length : Int) := by omega
  have hj6 : ¬ ((L.length : Int) = 0) := by omega
  have HML := Lib.hid hml
  have HY := Lib.hid hy
  clear hy
  have HN := Lib.hid hN
  have ho : xr = 0 := ho
  have hc : c ≤ xn := hc
  subst ho
  have ho3 : ((L.length : Int) == 0) = false := by simpa using hj6
  rw [hml] at HVAL ⊢
  clear hv hm hval hml hcl hown hlk hN hl
  go_enter Try.func16, Try.ntmps16
  go_upto_region 5 with (go_at_call 12; refine (HVAL.out _ (Below.refl _ _)).mono ?_; rintro e w1 ⟨rfl, hb1⟩; have B1 := Lib.hid hb1; clear hb1)
  obtain ⟨b, off, rfl, -, l0, l1, l2, l3⟩ := HCL.out w1 B1.out
  go_wp2
  go_ret2
  exact ⟨rfl, B1.out⟩
set_option maxRecDepth 100000 in
set_option maxHeartbeats 4000000 in
theorem rclo_ok (hv : RdVs M u w) (hm : VmAt 0 M L w) (hL : L.length ≤ 1000) (hz : valV L = 0) (hl : 0 < L.length) (ho : (lastV L).r = 0) (hc : ¬ c ≤ (lastV L).n) (hcb : -9223372036854775808 ≤ c ∧ c ≤ 9223372036854775807) :
    Calls Try.prog 16 #[u, .int .i64 c] w fun e w' => OutR 0 (endV L c) w e w' := by
  have hval := fun (w' : World) (hb : Below w.heap.size w w') => rvalc_any M u w' (hv.below hb) (by have := hm.len; omega)
  rw [hm.val, hz] at hval
  obtain ⟨a, cap, rfl⟩ := hv.shape
  have HVAL := Lib.hid hval
  have HRD := Lib.hid (fun (w' : World) (hb : Below w.heap.size w w') => hv.below hb)
  have HPM := Lib.hid (fun (w' : World) (hb : Below w.heap.size w w') => hm.below hb)
  have HL := Lib.hid hL
  obtain ⟨N, hN⟩ : ∃ N, L.length = N + 1 := ⟨L.length - 1, by omega⟩
  have hlt : N < L.length := by omega
  have hml := hm.len
  have hat := hm.at_ hlt
  have hcl := fun (w' : World) (hb : Below w.heap.size w w') => (hv.below hb).at_ (show N < M.length by omega)
  have hlk : lastV L = L.getD N Vn.z := by unfold lastV; rw [hN, Nat.add_sub_cancel]
  rw [hlk] at ho
  rw [hlk] at hc
  have HLK := Lib.hid hlk
  generalize hy : L.getD N Vn.z = y at *
  generalize hxy : M.getD N Vs.z = x at *
  obtain ⟨xn, xr, xk, xs⟩ := x
  obtain ⟨yn, yr, yk, yp⟩ := y
  obtain ⟨e1, e2, e3, hown⟩ := hat
  have e1 : xn = yn := e1
  have e2 : xr = yr := e2
  have e3 : xk = yk := e3
  subst e1 e2 e3
  have hown : OwnI 0 yp xs w := hown
  obtain ⟨xa, xc, rfl⟩ := hown.rd.shape
  have HCL : Hid (∀ w' : World, Below w.heap.size w w' → ∃ b off, a = some ⟨b, off, none⟩ ∧ b < w'.heap.size ∧ w'.cell? ⟨b, off + N * 4, none⟩ = some (.int .i64 xn) ∧ w'.cell? ⟨b, off + N * 4 + 1, none⟩ = some (.int .i64 xr) ∧ w'.cell? ⟨b, off + N * 4 + 2, none⟩ = some (.int .i64 xk) ∧ w'.cell? ⟨b, off + N * 4 + 3, none⟩ = some (.slice xa yp.length xc)) := Lib.hid hcl
  have hj1 : IntKind.i64.wrap ((L.length : Int) - 1) = (N : Int) := by rw [IntKind.wrap_i64]; omega
  have hj4 : wrap64 ((L.length : Int) - 1) = (N : Int) := by unfold wrap64; omega
  have hj3 : (N : Int) < (L.length : Int) := by omega
  have hj5 : (0 : Int) < (L.length : Int) := by omega
  have hj6 : ¬ ((L.length : Int) = 0) := by omega
  have HML := Lib.hid hml
  have HY := Lib.hid hy
  clear hy
  have HXY := Lib.hid hxy
  clear hxy
  have hj9 : IntKind.i64.wrap (N : Int) = (N : Int) := by rw [IntKind.wrap_i64]; omega
  have HN := Lib.hid hN
  have ho : xr = 0 := ho
  have hc : ¬ c ≤ xn := hc
  subst ho
  have ho3 : ((L.length : Int) == 0) = false := by simpa using hj6
  have HCB := Lib.hid hcb
  have HE : Hid (endV L c = L.set N ⟨xn, c, xk, yp⟩) := Lib.hid (by
    unfold endV; rw [HLK.out, if_pos rfl, HN.out, Nat.add_sub_cancel])
  rw [hml] at HVAL HRD ⊢
  clear hv hm hval hml hcl hown hlk hN hl hcb
  go_enter Try.func16, Try.ntmps16
  go_upto_region 5 with (go_at_call 12; refine (HVAL.out _ (Below.refl _ _)).mono ?_; rintro e w1 ⟨rfl, hb1⟩; have B1 := Lib.hid hb1; clear hb1)
  obtain ⟨b, off, rfl, -, l0, l1, l2, l3⟩ := HCL.out w1 B1.out
  go_upto_region 10 with (at_builtin; refine wp_appVsk rfl _ _ 22 rfl w1.heap.size [] M _ _ rfl rfl (OwnVs.empty _ _) (HRD.out _ B1.out).src ?_ ?_ ?_; exact Nat.le_refl _; (have h7 := HL.out; have h8 := HML.out; simp <;> omega); intro v2 w2 ho2 hb2 hk2; have HO2 : Hid (OwnVs w1.heap.size M v2 w2) := Lib.hid ho2; have B2 := Lib.hid (bgo B1.out hb2); clear ho2 hb2 hk2)
  have h3 := HO2.out
  obtain ⟨a2, c2', rfl⟩ := h3.rd.shape
  obtain ⟨g, rfl, hg, -, -, -, -⟩ := h3.block (by have := HML.out; omega)
  have HG := Lib.hid hg
  have HNM : Hid (N < M.length) := Lib.hid (by have := HML.out; omega)
  have hc5 := (h3.cellsAt HNM.out).2.1
  have hf5 := h3.frozen (N * 4 + 1)
  have HST := Lib.hid (h3.storedC HNM.out (c := c) HCB.out)
  have HAT := Lib.hid (fun (w' : World) (hb : Below w.heap.size w w') => ((HPM.out w' hb).at_ hlt).2.2.2)
  rw [HXY.out, HY.out] at HAT
  rw [HXY.out] at HST
  have BS := Lib.hid (bset B2.out g (N * 4 + 1) (.int .i64 c) (Nat.le_trans B1.out.size HG.out))
  rw [HML.out] at HST
  rw [HML.out]
  clear h3 hg l0 l1 l2 l3
  go_wp2
  go_ret2
  refine ⟨_, _, rfl, HST.out.mono B1.out.size, ?_, BS.out⟩
  rw [HE.out]
  exact (HPM.out _ BS.out).set N (m := ⟨xn, c, xk, .slice xa yp.length xc⟩) (p := ⟨xn, c, xk, yp⟩) ⟨rfl, rfl, rfl, HAT.out _ BS.out⟩
end
theorem rclo_any (M : List Vs) (L : List Vn) (u : Value) (c : Int) (w : World) (hv : RdVs M u w) (hm : VmAt 0 M L w) (hL : L.length ≤ 1000) (hcb : -9223372036854775808 ≤ c ∧ c ≤ 9223372036854775807) :
    Calls Try.prog 16 #[u, .int .i64 c] w fun e w' => OutR (cloE L c) (cloV L c) w e w' := by
  by_cases hz : valV L = 0
  · by_cases hl : L.length = 0
    · have e : cloE L c = 17 := by unfold cloE; rw [if_neg (fun h => h hz), if_pos (.inl hl)]
      have e2 : cloV L c = [] := by unfold cloV; rw [e, if_neg (by decide)]
      rw [e, e2]
      exact (rclo_nil M L u c w hv hm hL hz hl).mono fun e w' h => OutR.none h.1 h.2
    · by_cases ho : (lastV L).r = 0
      · by_cases hc : c ≤ (lastV L).n
        · have e : cloE L c = 19 := by unfold cloE; rw [if_neg (fun h => h hz), if_neg (by rintro (h | h); exact hl h; exact h ho), if_pos hc]
          have e2 : cloV L c = [] := by unfold cloV; rw [e, if_neg (by decide)]
          rw [e, e2]
          exact (rclo_ord M L u c w hv hm hL hz (by omega) ho hc).mono fun e w' h => OutR.none h.1 h.2
        · have e : cloE L c = 0 := by unfold cloE; rw [if_neg (fun h => h hz), if_neg (by rintro (h | h); exact hl h; exact h ho), if_neg hc]
          have e2 : cloV L c = endV L c := by unfold cloV; rw [e, if_pos rfl]
          rw [e, e2]
          exact rclo_ok M L u c w hv hm hL hz (by omega) ho hc hcb
      · have e : cloE L c = 17 := by unfold cloE; rw [if_neg (fun h => h hz), if_pos (.inr ho)]
        have e2 : cloV L c = [] := by unfold cloV; rw [e, if_neg (by decide)]
        rw [e, e2]
        exact (rclo_sta M L u c w hv hm hL hz (by omega) ho).mono fun e w' h => OutR.none h.1 h.2
  · have e : cloE L c = valV L := by unfold cloE; rw [if_pos hz]
    have e2 : cloV L c = [] := by unfold cloV; rw [e, if_neg hz]
    rw [e, e2]
    exact (rclo_bad M L u c w hv hm hL _ rfl hz).mono fun e w' h => OutR.none h.1 h.2
theorem rapp_any (M : List Vs) (L : List Vn) (u : Value) (n r k : Int) (s : Value) (p : List Int) (w : World) (hv : RdVs M u w) (hm : VmAt 0 M L w) (hL : L.length ≤ 1000) (hs : OwnI 0 p s w) (hx : Vs.ok ⟨n, r, k, s⟩) :
    Calls Try.prog 14 #[u, .agg #[.int .i64 n, .int .i64 r, .int .i64 k, s]] w fun e w' => OutR (appE L ⟨n, r, k, p⟩) (appV L ⟨n, r, k, p⟩) w e w' := by
  have h63 : n ≤ 9223372036854775807 ∧ k ≤ 9223372036854775807 := ⟨hx.1.2, hx.2.2.1.2⟩
  by_cases hz : valV L = 0
  · by_cases h0 : n < 1 ∨ k < 0 ∨ r ≠ 0
    · have e : appE L ⟨n, r, k, p⟩ = 5 := by unfold appE; rw [if_neg (fun h => h hz), if_pos h0]
      have e2 : appV L ⟨n, r, k, p⟩ = [] := by unfold appV; rw [e, if_neg (by decide)]
      rw [e, e2]
      exact (rapp_rng M L u n r k s p w hv hm hL hs hz h0).mono fun e w' h => OutR.none h.1 h.2
    · have g1 : 1 ≤ n := by omega
      have g2 : 0 ≤ k := by omega
      have g3 : r = 0 := by omega
      by_cases hl : 0 < L.length
      · by_cases ho : n ≤ (lastV L).n ∨ n < (lastV L).r
        · have e : appE L ⟨n, r, k, p⟩ = 19 := by unfold appE; rw [if_neg (fun h => h hz), if_neg h0, if_pos ⟨hl, ho⟩]
          have e2 : appV L ⟨n, r, k, p⟩ = [] := by unfold appV; rw [e, if_neg (by decide)]
          rw [e, e2]
          exact (rapp_ord M L u n r k s p w hv hm hL hs hz g1 g2 g3 hl ho).mono fun e w' h => OutR.none h.1 h.2
        · have e : appE L ⟨n, r, k, p⟩ = 0 := by unfold appE; rw [if_neg (fun h => h hz), if_neg h0, if_neg (fun h => ho h.2)]
          have e2 : appV L ⟨n, r, k, p⟩ = endV L n ++ [⟨n, r, k, p⟩] := by unfold appV; rw [e, if_pos rfl]
          rw [e, e2]
          exact rapp_ok M L u n r k s p w hv hm hL hs hz ⟨g1, h63.1⟩ ⟨g2, h63.2⟩ g3 hl ho
      · have e : appE L ⟨n, r, k, p⟩ = 0 := by unfold appE; rw [if_neg (fun h => h hz), if_neg h0, if_neg (fun h => hl h.1)]
        have hl0 : L.length = 0 := by omega
        have e2 : appV L ⟨n, r, k, p⟩ = [⟨n, r, k, p⟩] := by
          unfold appV; rw [e, if_pos rfl]
          have : L = [] := List.eq_nil_of_length_eq_zero hl0
          subst this
          unfold endV
          split <;> rfl
        rw [e, e2]
        exact rapp_nil M L u n r k s p w hv hm hL hs hz ⟨g1, h63.1⟩ ⟨g2, h63.2⟩ g3 hl0
  · have e : appE L ⟨n, r, k, p⟩ = valV L := by unfold appE; rw [if_pos hz]
    have e2 : appV L ⟨n, r, k, p⟩ = [] := by unfold appV; rw [e, if_neg hz]
    rw [e, e2]
    exact (rapp_bad M L u n r k s p w hv hm hL hs _ rfl hz).mono fun e w' h => OutR.none h.1 h.2
end Go.Proofs.Ytakickggpfbafaa
