/- The program's Append and Close: one contract each; known of layer 17. -/
import Derived.Test.YtakickggpfbafaaChB
namespace Go.Proofs.Ytakickggpfbafaa
open Go.RowKit
set_option linter.unusedVariables false
set_option linter.unusedSimpArgs false
/-- A chain and an error are answered. -/
def OutV (z : Int) (R : List Vn) (w : World) (e : Ending) (w' : World) : Prop := ∃ v' M', e = .returned (.tuple #[v', .int .i64 z]) ∧ OwnVs w.heap.size M' v' w' ∧ VmAt w.heap.size M' R w' ∧ Below w.heap.size w w'
theorem OutV.none {z : Int} {w w' : World} {e : Ending} (he : e = .returned (.tuple #[.slice none 0 0, .int .i64 z])) (hb : Below w.heap.size w w') : OutV z [] w e w' := ⟨_, [], he, OwnVs.empty _ _, trivial, hb⟩
theorem papp_any (M : List Vs) (L : List Vn) (u : Value) (n r k : Int) (s : Value) (p : List Int) (w : World) (hv : RdVs M u w) (hm : VmAt 0 M L w) (hL : L.length ≤ 1000) (hpl : ∀ x ∈ L, x.p.length ≤ 1000000) (hs : RdI p s w) (hx : Vs.ok ⟨n, r, k, s⟩) (hpp : p.length ≤ 1000000) :
    Calls Try.prog 13 #[u, .agg #[.int .i64 n, .int .i64 r, .int .i64 k, s]] w fun e w' => OutV (appE L ⟨n, r, k, p⟩) (appV L ⟨n, r, k, p⟩) w e w' := by
  have h63 : n ≤ 9223372036854775807 ∧ k ≤ 9223372036854775807 := ⟨hx.1.2, hx.2.2.1.2⟩
  by_cases hz : valV L = 0
  · by_cases h0 : n < 1 ∨ k < 0 ∨ r ≠ 0
    · have e : appE L ⟨n, r, k, p⟩ = 5 := by unfold appE; rw [if_neg (fun h => h hz), if_pos h0]
      have e2 : appV L ⟨n, r, k, p⟩ = [] := by unfold appV; rw [e, if_neg (by decide)]
      rw [e, e2]
      exact (papp_rng M L u n r k s p w hv hm hL hpl hs hz h0).mono fun e w' h => OutV.none h.1 h.2
    · have g1 : 1 ≤ n := by omega
      have g2 : 0 ≤ k := by omega
      have g3 : r = 0 := by omega
      by_cases hl : 0 < L.length
      · by_cases ho : n ≤ (lastV L).n ∨ n < (lastV L).r
        · have e : appE L ⟨n, r, k, p⟩ = 19 := by unfold appE; rw [if_neg (fun h => h hz), if_neg h0, if_pos ⟨hl, ho⟩]
          have e2 : appV L ⟨n, r, k, p⟩ = [] := by unfold appV; rw [e, if_neg (by decide)]
          rw [e, e2]
          exact (papp_ord M L u n r k s p w hv hm hL hpl hs hz g1 g2 g3 hl ho).mono fun e w' h => OutV.none h.1 h.2
        · have e : appE L ⟨n, r, k, p⟩ = 0 := by unfold appE; rw [if_neg (fun h => h hz), if_neg h0, if_neg (fun h => ho h.2)]
          have e2 : appV L ⟨n, r, k, p⟩ = endV L n ++ [⟨n, r, k, p⟩] := by unfold appV; rw [e, if_pos rfl]
          rw [e, e2]
          exact papp_ok M L u n r k s p w hv hm hL hpl hs hz ⟨g1, h63.1⟩ ⟨g2, h63.2⟩ g3 hl ho hpp
      · have e : appE L ⟨n, r, k, p⟩ = 0 := by unfold appE; rw [if_neg (fun h => h hz), if_neg h0, if_neg (fun h => hl h.1)]
        have hl0 : L.length = 0 := by omega
        have e2 : appV L ⟨n, r, k, p⟩ = [⟨n, r, k, p⟩] := by
          unfold appV; rw [e, if_pos rfl]
          have : L = [] := List.eq_nil_of_length_eq_zero hl0
          subst this
          unfold endV
          split <;> rfl
        rw [e, e2]
        exact papp_nil M L u n r k s p w hv hm hL hpl hs hz ⟨g1, h63.1⟩ ⟨g2, h63.2⟩ g3 hl0 hpp
  · have e : appE L ⟨n, r, k, p⟩ = valV L := by unfold appE; rw [if_pos hz]
    have e2 : appV L ⟨n, r, k, p⟩ = [] := by unfold appV; rw [e, if_neg hz]
    rw [e, e2]
    exact (papp_bad M L u n r k s p w hv hm hL hpl hs _ rfl hz).mono fun e w' h => OutV.none h.1 h.2
section
variable (M : List Vs) (L : List Vn) (u : Value) (c : Int) (w : World)
set_option maxRecDepth 100000 in
set_option maxHeartbeats 4000000 in
theorem pclo_bad (hv : RdVs M u w) (hm : VmAt 0 M L w) (hL : L.length ≤ 1000) (hpl : ∀ x ∈ L, x.p.length ≤ 1000000) (z : Int) (hz : valV L = z) (h0 : z ≠ 0) :
    Calls Try.prog 15 #[u, .int .i64 c] w fun e w' => e = .returned (.tuple #[.slice none 0 0, .int .i64 z]) ∧ Below w.heap.size w w' := by
  have hval := fun (w' : World) (hb : Below w.heap.size w w') => pvalc_any M u w' (hv.below hb) (by have := hm.len; omega)
  rw [hm.val, hz] at hval
  obtain ⟨a, cap, rfl⟩ := hv.shape
  have HVAL := Lib.hid hval
  clear hv hm hval hpl
  go_enter Try.func15, Try.ntmps15
  go_wp2_with (go_at_call 11; refine (HVAL.out _ (Below.refl _ _)).mono ?_; rintro e w1 ⟨rfl, hb1⟩; have B1 := Lib.hid hb1; clear hb1)
  go_ret2
  exact ⟨rfl, B1.out⟩
set_option maxRecDepth 100000 in
set_option maxHeartbeats 4000000 in
theorem pclo_nil (hv : RdVs M u w) (hm : VmAt 0 M L w) (hL : L.length ≤ 1000) (hpl : ∀ x ∈ L, x.p.length ≤ 1000000) (hz : valV L = 0) (hl : L.length = 0) :
    Calls Try.prog 15 #[u, .int .i64 c] w fun e w' => e = .returned (.tuple #[.slice none 0 0, .int .i64 17]) ∧ Below w.heap.size w w' := by
  have hval := fun (w' : World) (hb : Below w.heap.size w w') => pvalc_any M u w' (hv.below hb) (by have := hm.len; omega)
  rw [hm.val, hz] at hval
  obtain ⟨a, cap, rfl⟩ := hv.shape
  have HVAL := Lib.hid hval
  have hml := hm.len
  rw [hml, hl] at HVAL ⊢
  clear hv hm hval hpl hml
  go_enter Try.func15, Try.ntmps15
  go_wp2_with (go_at_call 11; refine (HVAL.out _ (Below.refl _ _)).mono ?_; rintro e w1 ⟨rfl, hb1⟩; have B1 := Lib.hid hb1; clear hb1)
  go_ret2
  exact ⟨rfl, B1.out⟩
set_option maxRecDepth 100000 in
set_option maxHeartbeats 4000000 in
theorem pclo_sta (hv : RdVs M u w) (hm : VmAt 0 M L w) (hL : L.length ≤ 1000) (hpl : ∀ x ∈ L, x.p.length ≤ 1000000) (hz : valV L = 0) (hl : 0 < L.length) (ho : (lastV L).r ≠ 0) :
    Calls Try.prog 15 #[u, .int .i64 c] w fun e w' => e = .returned (.tuple #[.slice none 0 0, .int .i64 17]) ∧ Below w.heap.size w w' := by
  have hval := fun (w' : World) (hb : Below w.heap.size w w') => pvalc_any M u w' (hv.below hb) (by have := hm.len; omega)
  rw [hm.val, hz] at hval
  obtain ⟨a, cap, rfl⟩ := hv.shape
  have HVAL := Lib.hid hval
  obtain ⟨N, hN⟩ : ∃ N, L.length = N + 1 := ⟨L.length - 1, by omega⟩
  have hlt : N < L.length := by omega
  have hml := hm.len
  have hat := hm.at_ hlt
  have hcl := fun (w' : World) (hb : Below w.heap.size w w') => (hv.below hb).at_ (show N < M.length by omega)
  have hlk : lastV L = L.getD N Vn.z := by unfold lastV; rw [hN, Nat.add_sub_cancel]
  rw [hlk] at ho
  have HLK := Lib.hid hlk
  generalize hy : L.getD N Vn.z = y at *
  generalize M.getD N Vs.z = x at *
  obtain ⟨xn, xr, xk, xs⟩ := x
  obtain ⟨yn, yr, yk, yp⟩ := y
  obtain ⟨e1, e2, e3, hown⟩ := hat
  have e1 : xn = yn := e1
  have e2 : xr = yr := e2
  have e3 : xk = yk := e3
  subst e1 e2 e3
  have hown : OwnI 0 yp xs w := hown
  obtain ⟨xa, xc, rfl⟩ := hown.rd.shape
  have HCL : Hid (∀ w' : World, Below w.heap.size w w' → ∃ b off, a = some ⟨b, off, none⟩ ∧ b < w'.heap.size ∧ w'.cell? ⟨b, off + N * 4, none⟩ = some (.int .i64 xn) ∧ w'.cell? ⟨b, off + N * 4 + 1, none⟩ = some (.int .i64 xr) ∧ w'.cell? ⟨b, off + N * 4 + 2, none⟩ = some (.int .i64 xk) ∧ w'.cell? ⟨b, off + N * 4 + 3, none⟩ = some (.slice xa yp.length xc)) := Lib.hid hcl
  have hj1 : IntKind.i64.wrap ((L.length : Int) - 1) = (N : Int) := by rw [IntKind.wrap_i64]; omega
  have hj4 : wrap64 ((L.length : Int) - 1) = (N : Int) := by unfold wrap64; omega
  have hj3 : (N : Int) < (L.length : Int) := by omega
  have hj5 : (0 : Int) < (L.length : Int) := by omega
  have hj6 : ¬ ((L.length : Int) = 0) := by omega
  have HML := Lib.hid hml
  have HY := Lib.hid hy
  clear hy
  have HN := Lib.hid hN
  have ho : ¬ xr = 0 := ho
  have ho2 : (xr != 0) = true := by simpa using ho
  have hj8 : ¬ (N : Int) < 0 := by omega
  rw [hml] at HVAL ⊢
  clear hv hm hval hpl hml hcl hown hlk hN hl
  go_enter Try.func15, Try.ntmps15
  go_upto_region 5 with (go_at_call 11; refine (HVAL.out _ (Below.refl _ _)).mono ?_; rintro e w1 ⟨rfl, hb1⟩; have B1 := Lib.hid hb1; clear hb1)
  obtain ⟨b, off, rfl, -, l0, l1, l2, l3⟩ := HCL.out w1 B1.out
  go_wp2
  go_ret2
  exact ⟨rfl, B1.out⟩
set_option maxRecDepth 100000 in
set_option maxHeartbeats 4000000 in
theorem pclo_ord (hv : RdVs M u w) (hm : VmAt 0 M L w) (hL : L.length ≤ 1000) (hpl : ∀ x ∈ L, x.p.length ≤ 1000000) (hz : valV L = 0) (hl : 0 < L.length) (ho : (lastV L).r = 0) (hc : c ≤ (lastV L).n) :
    Calls Try.prog 15 #[u, .int .i64 c] w fun e w' => e = .returned (.tuple #[.slice none 0 0, .int .i64 19]) ∧ Below w.heap.size w w' := by
  have hval := fun (w' : World) (hb : Below w.heap.size w w') => pvalc_any M u w' (hv.below hb) (by have := hm.len; omega)
  rw [hm.val, hz] at hval
  obtain ⟨a, cap, rfl⟩ := hv.shape
  have HVAL := Lib.hid hval
  obtain ⟨N, hN⟩ : ∃ N, L.length = N + 1 := ⟨L.length - 1, by omega⟩
  have hlt : N < L.length := by omega
  have hml := hm.len
  have hat := hm.at_ hlt
  have hcl := fun (w' : World) (hb : Below w.heap.size w w') => (hv.below hb).at_ (show N < M.length by omega)
  have hlk : lastV L = L.getD N Vn.z := by unfold lastV; rw [hN, Nat.add_sub_cancel]
  rw [hlk] at ho
  rw [hlk] at hc
  have HLK := Lib.hid hlk
  generalize hy : L.getD N Vn.z = y at *
  generalize M.getD N Vs.z = x at *
  obtain ⟨xn, xr, xk, xs⟩ := x
  obtain ⟨yn, yr, yk, yp⟩ := y
  obtain ⟨e1, e2, e3, hown⟩ := hat
  have e1 : xn = yn := e1
  have e2 : xr = yr := e2
  have e3 : xk = yk := e3
  subst e1 e2 e3
  have hown : OwnI 0 yp xs w := hown
  obtain ⟨xa, xc, rfl⟩ := hown.rd.shape
  have HCL : Hid (∀ w' : World, Below w.heap.size w w' → ∃ b off, a = some ⟨b, off, none⟩ ∧ b < w'.heap.size ∧ w'.cell? ⟨b, off + N * 4, none⟩ = some (.int .i64 xn) ∧ w'.cell? ⟨b, off + N * 4 + 1, none⟩ = some (.int .i64 xr) ∧ w'.cell? ⟨b, off + N * 4 + 2, none⟩ = some (.int .i64 xk) ∧ w'.cell? ⟨b, off + N * 4 + 3, none⟩ = some (.slice xa yp.length xc)) := Lib.hid hcl
  have hj1 : IntKind.i64.wrap ((L.length : Int) - 1) = (N : Int) := by rw [IntKind.wrap_i64]; omega
  have hj4 : wrap64 ((L.length : Int) - 1) = (N : Int) := by unfold wrap64; omega
  have hj3 : (N : Int) < (L.length : Int) := by omega
  have hj5 : (0 : Int) < (L.length : Int) := by omega
  have hj6 : ¬ ((L.length : Int) = 0) := by omega
  have HML := Lib.hid hml
  have HY := Lib.hid hy
  clear hy
  have HN := Lib.hid hN
  have ho : xr = 0 := ho
  have hc : c ≤ xn := hc
  subst ho
  have hj8 : ¬ (N : Int) < 0 := by omega
  rw [hml] at HVAL ⊢
  clear hv hm hval hpl hml hcl hown hlk hN hl
  go_enter Try.func15, Try.ntmps15
  go_upto_region 5 with (go_at_call 11; refine (HVAL.out _ (Below.refl _ _)).mono ?_; rintro e w1 ⟨rfl, hb1⟩; have B1 := Lib.hid hb1; clear hb1)
  obtain ⟨b, off, rfl, -, l0, l1, l2, l3⟩ := HCL.out w1 B1.out
  go_wp2
  go_ret2
  exact ⟨rfl, B1.out⟩
set_option maxRecDepth 100000 in
set_option maxHeartbeats 4000000 in
theorem pclo_ok (hv : RdVs M u w) (hm : VmAt 0 M L w) (hL : L.length ≤ 1000) (hpl : ∀ x ∈ L, x.p.length ≤ 1000000) (hz : valV L = 0) (hl : 0 < L.length) (ho : (lastV L).r = 0) (hc : ¬ c ≤ (lastV L).n) (hcb : -9223372036854775808 ≤ c ∧ c ≤ 9223372036854775807) :
    Calls Try.prog 15 #[u, .int .i64 c] w fun e w' => OutV 0 (endV L c) w e w' := by
  have hval := fun (w' : World) (hb : Below w.heap.size w w') => pvalc_any M u w' (hv.below hb) (by have := hm.len; omega)
  rw [hm.val, hz] at hval
  obtain ⟨a, cap, rfl⟩ := hv.shape
  have HVAL := Lib.hid hval
  have HSA := Lib.hid (fun (w' : World) (hb : Below w.heap.size w w') => sepall_any M L _ w' (hv.below hb) (hm.below hb) hL hpl)
  obtain ⟨N, hN⟩ : ∃ N, L.length = N + 1 := ⟨L.length - 1, by omega⟩
  have hlt : N < L.length := by omega
  have hml := hm.len
  have hat := hm.at_ hlt
  have hcl := fun (w' : World) (hb : Below w.heap.size w w') => (hv.below hb).at_ (show N < M.length by omega)
  have hlk : lastV L = L.getD N Vn.z := by unfold lastV; rw [hN, Nat.add_sub_cancel]
  rw [hlk] at ho
  rw [hlk] at hc
  have HLK := Lib.hid hlk
  generalize hy : L.getD N Vn.z = y at *
  generalize M.getD N Vs.z = x at *
  obtain ⟨xn, xr, xk, xs⟩ := x
  obtain ⟨yn, yr, yk, yp⟩ := y
  obtain ⟨e1, e2, e3, hown⟩ := hat
  have e1 : xn = yn := e1
  have e2 : xr = yr := e2
  have e3 : xk = yk := e3
  subst e1 e2 e3
  have hown : OwnI 0 yp xs w := hown
  obtain ⟨xa, xc, rfl⟩ := hown.rd.shape
  have HCL : Hid (∀ w' : World, Below w.heap.size w w' → ∃ b off, a = some ⟨b, off, none⟩ ∧ b < w'.heap.size ∧ w'.cell? ⟨b, off + N * 4, none⟩ = some (.int .i64 xn) ∧ w'.cell? ⟨b, off + N * 4 + 1, none⟩ = some (.int .i64 xr) ∧ w'.cell? ⟨b, off + N * 4 + 2, none⟩ = some (.int .i64 xk) ∧ w'.cell? ⟨b, off + N * 4 + 3, none⟩ = some (.slice xa yp.length xc)) := Lib.hid hcl
  have hj1 : IntKind.i64.wrap ((L.length : Int) - 1) = (N : Int) := by rw [IntKind.wrap_i64]; omega
  have hj4 : wrap64 ((L.length : Int) - 1) = (N : Int) := by unfold wrap64; omega
  have hj3 : (N : Int) < (L.length : Int) := by omega
  have hj5 : (0 : Int) < (L.length : Int) := by omega
  have hj6 : ¬ ((L.length : Int) = 0) := by omega
  have HML := Lib.hid hml
  have HY := Lib.hid hy
  clear hy
  have HN := Lib.hid hN
  have ho : xr = 0 := ho
  have hc : ¬ c ≤ xn := hc
  subst ho
  have hj8 : ¬ (N : Int) < 0 := by omega
  have HCB := Lib.hid hcb
  have HE : Hid (endV L c = L.set N ⟨xn, c, xk, yp⟩) := Lib.hid (by
    unfold endV; rw [HLK.out, if_pos rfl, HN.out, Nat.add_sub_cancel])
  rw [hml] at HVAL HSA ⊢
  clear hv hm hval hpl hml hcl hown hlk hN hl hcb
  go_enter Try.func15, Try.ntmps15
  go_upto_region 5 with (go_at_call 11; refine (HVAL.out _ (Below.refl _ _)).mono ?_; rintro e w1 ⟨rfl, hb1⟩; have B1 := Lib.hid hb1; clear hb1)
  obtain ⟨b, off, rfl, -, l0, l1, l2, l3⟩ := HCL.out w1 B1.out
  go_upto_region 10 with (go_at_call 28; refine (HSA.out _ B1.out).mono ?_; rintro e w3 ⟨v3, M3, rfl, ho3, hm3, hb3⟩; obtain ⟨a3, c3', rfl⟩ := ho3.rd.shape; have HO3 := Lib.hid ho3; have HM3 := Lib.hid hm3; have B3 := Lib.hid (bgo B1.out hb3); clear ho3 hm3 hb3)
  obtain ⟨g5, rfl, hg5, -, -, -, -⟩ := HO3.out.block (by have := HM3.out.len; omega)
  have HG5 := Lib.hid hg5
  have hps := HM3.out.pos (j := N) hlt
  rw [HY.out] at hps
  have HPS := Lib.hid hps
  have HN5 : Hid (N < M3.length) := Lib.hid (by have := HM3.out.len; omega)
  have hc5 := (HO3.out.cellsAt HN5.out).2.1
  have hf5 := HO3.out.frozen (N * 4 + 1)
  have HST := Lib.hid (HO3.out.storedC HN5.out (c := c) HCB.out)
  have HKP := Lib.hid (HO3.out.kpst1 (by have := HN5.out; omega) (N * 4 + 1) (.int .i64 c))
  have hml3 : M3.length = L.length := HM3.out.len
  rw [hml3] at HST
  rw [hml3]
  clear hps hg5 l0 l1 l2 l3
  go_wp2
  go_ret2
  exact ⟨_, _, rfl, HST.out.mono B1.out.size, by rw [HE.out]; exact ((HM3.out.kpt HKP.out).set N ⟨HPS.out.1, rfl, HPS.out.2.2.1, HPS.out.2.2.2.kpt HKP.out⟩).mono B1.out.size, bset B3.out _ _ _ (Nat.le_trans B1.out.size HG5.out)⟩
end
theorem pclo_any (M : List Vs) (L : List Vn) (u : Value) (c : Int) (w : World) (hv : RdVs M u w) (hm : VmAt 0 M L w) (hL : L.length ≤ 1000) (hpl : ∀ x ∈ L, x.p.length ≤ 1000000) (hcb : -9223372036854775808 ≤ c ∧ c ≤ 9223372036854775807) :
    Calls Try.prog 15 #[u, .int .i64 c] w fun e w' => OutV (cloE L c) (cloV L c) w e w' := by
  by_cases hz : valV L = 0
  · by_cases hl : L.length = 0
    · have e : cloE L c = 17 := by unfold cloE; rw [if_neg (fun h => h hz), if_pos (.inl hl)]
      have e2 : cloV L c = [] := by unfold cloV; rw [e, if_neg (by decide)]
      rw [e, e2]
      exact (pclo_nil M L u c w hv hm hL hpl hz hl).mono fun e w' h => OutV.none h.1 h.2
    · by_cases ho : (lastV L).r = 0
      · by_cases hc : c ≤ (lastV L).n
        · have e : cloE L c = 19 := by unfold cloE; rw [if_neg (fun h => h hz), if_neg (by rintro (h | h); exact hl h; exact h ho), if_pos hc]
          have e2 : cloV L c = [] := by unfold cloV; rw [e, if_neg (by decide)]
          rw [e, e2]
          exact (pclo_ord M L u c w hv hm hL hpl hz (by omega) ho hc).mono fun e w' h => OutV.none h.1 h.2
        · have e : cloE L c = 0 := by unfold cloE; rw [if_neg (fun h => h hz), if_neg (by rintro (h | h); exact hl h; exact h ho), if_neg hc]
          have e2 : cloV L c = endV L c := by unfold cloV; rw [e, if_pos rfl]
          rw [e, e2]
          exact pclo_ok M L u c w hv hm hL hpl hz (by omega) ho hc hcb
      · have e : cloE L c = 17 := by unfold cloE; rw [if_neg (fun h => h hz), if_pos (.inr ho)]
        have e2 : cloV L c = [] := by unfold cloV; rw [e, if_neg (by decide)]
        rw [e, e2]
        exact (pclo_sta M L u c w hv hm hL hpl hz (by omega) ho).mono fun e w' h => OutV.none h.1 h.2
  · have e : cloE L c = valV L := by unfold cloE; rw [if_pos hz]
    have e2 : cloV L c = [] := by unfold cloV; rw [e, if_neg hz]
    rw [e, e2]
    exact (pclo_bad M L u c w hv hm hL hpl _ rfl hz).mono fun e w' h => OutV.none h.1 h.2
theorem valV_one2 : valV [⟨2, 0, 0, []⟩] = 0 := by decide
theorem appE_known : appE [⟨2, 0, 0, []⟩] ⟨5, 0, 0, []⟩ = 0 := by decide
theorem appV_known : appV [⟨2, 0, 0, []⟩] ⟨5, 0, 0, []⟩ = [⟨2, 5, 0, []⟩, ⟨5, 0, 0, []⟩] := by unfold appV; rw [appE_known, if_pos rfl]; rfl
theorem fndV_known : fndV [⟨2, 5, 0, []⟩, ⟨5, 0, 0, []⟩] 4 = some 0 := by decide
set_option maxRecDepth 100000 in
set_option maxHeartbeats 2000000 in
theorem known17_any (w : World) : Calls Try.prog 7 #[] w fun e w' => e = .returned (.bool true) ∧ Below w.heap.size w w' := by
  have h1 : OwnVs w.heap.size [(⟨2, 0, 0, .slice none 0 0⟩ : Vs)] (.slice (some ⟨w.heap.size, 0, none⟩) 1 1) (w.alloc (.cells #[.int .i64 2, .int .i64 0, .int .i64 0, .slice none 0 0] 33)) := OwnVs.one (x := ⟨2, 0, 0, .slice none 0 0⟩) ⟨by decide, by decide, by decide, _, _, _, rfl⟩ w
  have HAP := Lib.hid (papp_any [⟨2, 0, 0, .slice none 0 0⟩] [⟨2, 0, 0, []⟩] _ 5 0 0 (.slice none 0 0) [] _ h1.rd ⟨⟨rfl, rfl, rfl, OwnI.empty _ _⟩, trivial⟩ (by decide) (by decide) (OwnI.empty 0 _).rd ⟨by decide, by decide, by decide, _, _, _, rfl⟩ (by decide))
  rw [appE_known, appV_known] at HAP
  clear h1
  go_enter Try.func7, Try.ntmps7
  go_upto_region 2 with (go_at_call 13; refine HAP.out.mono ?_; rintro e w1 ⟨u, M, rfl, ho, hm, hb⟩; have HR := Lib.hid ho.rd; have HM := Lib.hid hm; have HB := Lib.hid (bgo (b1 _) hb); clear hb; have hml := hm.len; simp only [List.length_cons, List.length_nil] at hml; clear hm)
  obtain ⟨ua, uc, rfl⟩ := ho.rd.shape
  clear ho
  have hp0 := HM.out.pos (j := 0) (by decide)
  have hp1 := HM.out.pos (j := 1) (by decide)
  obtain ⟨b, off, rfl, hbl, -, c0, -, -⟩ := HR.out.at_ (j := 0) (by omega)
  obtain ⟨b2, off2, hbo, -, -, c1, -, -⟩ := HR.out.at_ (j := 1) (by omega)
  simp only [Option.some.injEq, Addr.mk.injEq, and_true] at hbo
  obtain ⟨rfl, rfl⟩ := hbo
  have c0 : w1.cell? ⟨b, off + 1, none⟩ = some (Value.int .i64 5) := by rw [hp0.2.1] at c0; simpa using c0
  have c1 : w1.cell? ⟨b, off + 5, none⟩ = some (Value.int .i64 0) := by rw [hp1.2.1] at c1; simpa using c1
  have HC := Lib.hid (pfindc_any M _ 4 w1 HR.out (by omega))
  rw [HM.out.fnd, fndV_known] at HC
  rw [hml] at HC ⊢
  clear hp0 hp1 hml
  go_wp2_with (go_at_call 9; refine HC.out.mono ?_; rintro e w2 ⟨rfl, hb⟩; have H2 := Lib.hid (bgo HB.out hb); have d0 := ((bcell hb).1 b (off + 1) hbl).trans c0; have d1 := ((bcell hb).1 b (off + 5) hbl).trans c1; clear hb)
  go_ret
  exact ⟨rfl, H2.out⟩
end Go.Proofs.Ytakickggpfbafaa
