/- The program's Append and Close. -/
import Derived.Test.YtakickggpfbafaaChS
import Derived.Test.YtakickggpfbafaaChA
import Derived.Deep.RegionLaw
namespace Go.Proofs.Ytakickggpfbafaa
open Go.RowKit
set_option linter.unusedVariables false
set_option linter.unusedSimpArgs false
def lastV (L : List Vn) : Vn := L.getD (L.length - 1) Vn.z
/-- What Append answers. -/
def appE (L : List Vn) (v : Vn) : Int := if valV L ≠ 0 then valV L else if v.n < 1 ∨ v.k < 0 ∨ v.r ≠ 0 then 5 else if 0 < L.length ∧ (v.n ≤ (lastV L).n ∨ v.n < (lastV L).r) then 19 else 0
def endV (L : List Vn) (c : Int) : List Vn := if (lastV L).r = 0 then L.set (L.length - 1) ⟨(lastV L).n, c, (lastV L).k, (lastV L).p⟩ else L
def appV (L : List Vn) (v : Vn) : List Vn := if appE L v = 0 then endV L v.n ++ [v] else []
/-- What Close answers. -/
def cloE (L : List Vn) (c : Int) : Int := if valV L ≠ 0 then valV L else if L.length = 0 ∨ (lastV L).r ≠ 0 then 17 else if c ≤ (lastV L).n then 19 else 0
def cloV (L : List Vn) (c : Int) : List Vn := if cloE L c = 0 then endV L c else []
/-- The box of a version that came in by value. -/
theorem vs_box {n r k : Int} {s : Value} {w w1 : World} (hb : Below (w.heap.size + 1) (w.alloc (.cells #[.int .i64 n, .int .i64 r, .int .i64 k, s] 33)) w1) :
    w1.cell? ⟨w.heap.size, 0, none⟩ = some (.int .i64 n) ∧ w1.cell? ⟨w.heap.size, 1, none⟩ = some (.int .i64 r) ∧ w1.cell? ⟨w.heap.size, 2, none⟩ = some (.int .i64 k) ∧ w1.cell? ⟨w.heap.size, 3, none⟩ = some s :=
  ⟨(hb.cell (p := ⟨w.heap.size, 0, none⟩) (Nat.lt_succ_self _)).trans (by go_simp), (hb.cell (p := ⟨w.heap.size, 1, none⟩) (Nat.lt_succ_self _)).trans (by go_simp), (hb.cell (p := ⟨w.heap.size, 2, none⟩) (Nat.lt_succ_self _)).trans (by go_simp), (hb.cell (p := ⟨w.heap.size, 3, none⟩) (Nat.lt_succ_self _)).trans (by go_simp)⟩
theorem OwnVs.one1 {x : Vs} (hx : x.ok) (w : World) : OwnVs w.heap.size [x] (.slice (some ⟨w.heap.size, 0, none⟩) 1 1) (w.alloc (.cells #[.int .i64 x.n, .int .i64 x.r, .int .i64 x.k, x.s] 33)) := OwnVs.one hx w
theorem OwnVs.kpst1 {B g cap : Nat} {L : List Vs} {w : World} (h : OwnVs B L (.slice (some ⟨g, 0, none⟩) L.length cap) w) (hp : 0 < L.length) (j : Nat) (u0 : Value) : KpT 3 w (w.setCell ⟨g, j, none⟩ u0) := by
  obtain ⟨cur, hg⟩ : ∃ cur, w.heap[g]? = some (.cells cur 33 (0, 0)) := by
    rcases h.2.2 with ⟨he, hn⟩ | ⟨g', cap', cur, he, hb, hg, _⟩
    · omega
    · simp only [Value.slice.injEq, Option.some.injEq, Addr.mk.injEq] at he
      obtain ⟨⟨rfl, _⟩, _, rfl⟩ := he
      exact ⟨cur, hg⟩
  exact KpT.row ne_int_vs hg (oth_cell g j w u0)
theorem VmAt.pos {B : Nat} {M : List Vs} {L : List Vn} {w : World} (h : VmAt B M L w) {j : Nat} (hj : j < L.length) : (M.getD j Vs.z).n = (L.getD j Vn.z).n ∧ (M.getD j Vs.z).r = (L.getD j Vn.z).r ∧ (M.getD j Vs.z).k = (L.getD j Vn.z).k ∧ OwnI B (L.getD j Vn.z).p (M.getD j Vs.z).s w := h.at_ hj
section
variable (M : List Vs) (L : List Vn) (u : Value) (n r k : Int) (s : Value) (p : List Int) (w : World)
set_option maxRecDepth 100000 in
set_option maxHeartbeats 4000000 in
theorem papp_bad (hv : RdVs M u w) (hm : VmAt 0 M L w) (hL : L.length ≤ 1000) (hpl : ∀ x ∈ L, x.p.length ≤ 1000000) (hs : RdI p s w) (z : Int) (hz : valV L = z) (h0 : z ≠ 0) :
    Calls Try.prog 13 #[u, .agg #[.int .i64 n, .int .i64 r, .int .i64 k, s]] w fun e w' => e = .returned (.tuple #[.slice none 0 0, .int .i64 z]) ∧ Below w.heap.size w w' := by
  have hval := fun (w' : World) (hb : Below w.heap.size w w') => pvalc_any M u w' (hv.below hb) (by have := hm.len; omega)
  rw [hm.val, hz] at hval
  obtain ⟨a, cap, rfl⟩ := hv.shape
  have HVAL := Lib.hid hval
  obtain ⟨sa, sc, rfl⟩ := hs.shape
  clear hv hm hval hs hpl
  go_enter Try.func13, Try.ntmps13
  go_wp2_with (go_at_call 11; refine (HVAL.out _ (b1 _)).mono ?_; rintro e w1 ⟨rfl, hb1⟩; obtain ⟨c0, c1, c2, c3⟩ := vs_box (w := w) (by simpa using hb1); have B1 := Lib.hid (bgo (b1 _) hb1); have BX := Lib.hid hb1; have hwl : w.heap.size < w1.heap.size := Nat.lt_of_lt_of_le (by simp) hb1.size; clear hb1)
  go_ret2
  exact ⟨rfl, B1.out⟩
set_option maxRecDepth 100000 in
set_option maxHeartbeats 4000000 in
theorem papp_rng (hv : RdVs M u w) (hm : VmAt 0 M L w) (hL : L.length ≤ 1000) (hpl : ∀ x ∈ L, x.p.length ≤ 1000000) (hs : RdI p s w) (hz : valV L = 0) (h0 : n < 1 ∨ k < 0 ∨ r ≠ 0) :
    Calls Try.prog 13 #[u, .agg #[.int .i64 n, .int .i64 r, .int .i64 k, s]] w fun e w' => e = .returned (.tuple #[.slice none 0 0, .int .i64 5]) ∧ Below w.heap.size w w' := by
  have hval := fun (w' : World) (hb : Below w.heap.size w w') => pvalc_any M u w' (hv.below hb) (by have := hm.len; omega)
  rw [hm.val, hz] at hval
  obtain ⟨a, cap, rfl⟩ := hv.shape
  have HVAL := Lib.hid hval
  obtain ⟨sa, sc, rfl⟩ := hs.shape
  clear hv hm hval hs hpl
  by_cases g1 : n < 1
  · clear h0
    go_enter Try.func13, Try.ntmps13
    go_wp2_with (go_at_call 11; refine (HVAL.out _ (b1 _)).mono ?_; rintro e w1 ⟨rfl, hb1⟩; obtain ⟨c0, c1, c2, c3⟩ := vs_box (w := w) (by simpa using hb1); have B1 := Lib.hid (bgo (b1 _) hb1); have BX := Lib.hid hb1; have hwl : w.heap.size < w1.heap.size := Nat.lt_of_lt_of_le (by simp) hb1.size; clear hb1)
    go_ret2
    exact ⟨rfl, B1.out⟩
  · by_cases g2 : k < 0
    · clear h0
      go_enter Try.func13, Try.ntmps13
      go_wp2_with (go_at_call 11; refine (HVAL.out _ (b1 _)).mono ?_; rintro e w1 ⟨rfl, hb1⟩; obtain ⟨c0, c1, c2, c3⟩ := vs_box (w := w) (by simpa using hb1); have B1 := Lib.hid (bgo (b1 _) hb1); have BX := Lib.hid hb1; have hwl : w.heap.size < w1.heap.size := Nat.lt_of_lt_of_le (by simp) hb1.size; clear hb1)
      go_ret2
      exact ⟨rfl, B1.out⟩
    · have g3 : ¬ r = 0 := by omega
      have g4 : (r != 0) = true := by simpa using g3
      clear h0
      go_enter Try.func13, Try.ntmps13
      go_wp2_with (go_at_call 11; refine (HVAL.out _ (b1 _)).mono ?_; rintro e w1 ⟨rfl, hb1⟩; obtain ⟨c0, c1, c2, c3⟩ := vs_box (w := w) (by simpa using hb1); have B1 := Lib.hid (bgo (b1 _) hb1); have BX := Lib.hid hb1; have hwl : w.heap.size < w1.heap.size := Nat.lt_of_lt_of_le (by simp) hb1.size; clear hb1)
      go_ret2
      exact ⟨rfl, B1.out⟩
set_option maxRecDepth 100000 in
set_option maxHeartbeats 4000000 in
theorem papp_nil (hv : RdVs M u w) (hm : VmAt 0 M L w) (hL : L.length ≤ 1000) (hpl : ∀ x ∈ L, x.p.length ≤ 1000000) (hs : RdI p s w) (hz : valV L = 0) (h0 : 1 ≤ n ∧ n ≤ 9223372036854775807) (h1 : 0 ≤ k ∧ k ≤ 9223372036854775807) (hr : r = 0) (hl : L.length = 0) (hpp : p.length ≤ 1000000) :
    Calls Try.prog 13 #[u, .agg #[.int .i64 n, .int .i64 r, .int .i64 k, s]] w fun e w' => ∃ v' M', e = .returned (.tuple #[v', .int .i64 0]) ∧ OwnVs w.heap.size M' v' w' ∧ VmAt w.heap.size M' [⟨n, r, k, p⟩] w' ∧ Below w.heap.size w w' := by
  have hval := fun (w' : World) (hb : Below w.heap.size w w') => pvalc_any M u w' (hv.below hb) (by have := hm.len; omega)
  rw [hm.val, hz] at hval
  obtain ⟨a, cap, rfl⟩ := hv.shape
  have HVAL := Lib.hid hval
  have HSP := Lib.hid (fun (w' : World) (hb : Below w.heap.size w w') => sep_any n r k s p w' (hs.below hb) hpp)
  obtain ⟨sa, sc, rfl⟩ := hs.shape
  have hml := hm.len
  have g1 : ¬ n < 1 := by omega
  have g2 : ¬ k < 0 := by omega
  subst hr
  have HX : Hid (∀ a c, Vs.ok ⟨n, 0, k, .slice a p.length c⟩) := Lib.hid (fun a c => ⟨by show -9223372036854775808 ≤ n ∧ n ≤ 9223372036854775807; omega, by show (-9223372036854775808 : Int) ≤ 0 ∧ (0 : Int) ≤ 9223372036854775807; decide, by show -9223372036854775808 ≤ k ∧ k ≤ 9223372036854775807; omega, _, _, _, rfl⟩)
  rw [hml, hl] at HVAL ⊢
  clear hv hm hval hs hpl h0 h1 hml
  go_enter Try.func13, Try.ntmps13
  go_wp2_with (first
    | (go_at_call 11; refine (HVAL.out _ (b1 _)).mono ?_; rintro e w1 ⟨rfl, hb1⟩; obtain ⟨c0, c1, c2, c3⟩ := vs_box (w := w) (by simpa using hb1); have B1 := Lib.hid (bgo (b1 _) hb1); have BX := Lib.hid hb1; have hwl : w.heap.size < w1.heap.size := Nat.lt_of_lt_of_le (by simp) hb1.size; clear hb1)
    | (go_at_call 27; refine (HSP.out _ B1.out).mono ?_; rintro e w2 ⟨s2, rfl, ho2, hb2⟩; obtain ⟨ya, yc, rfl⟩ := ho2.rd.shape; have HO2 := Lib.hid (ho2.mono B1.out.size); have B2 := Lib.hid (bgo B1.out hb2); clear ho2 hb2))
  go_ret2
  exact ⟨_, [⟨n, 0, k, .slice ya p.length yc⟩], rfl, (OwnVs.one (HX.out ya yc) w2).mono B2.out.size, ⟨⟨rfl, rfl, rfl, HO2.out.alloc _⟩, trivial⟩, bal B2.out _⟩
set_option maxRecDepth 100000 in
set_option maxHeartbeats 4000000 in
theorem papp_ord (hv : RdVs M u w) (hm : VmAt 0 M L w) (hL : L.length ≤ 1000) (hpl : ∀ x ∈ L, x.p.length ≤ 1000000) (hs : RdI p s w) (hz : valV L = 0) (h0 : 1 ≤ n) (h1 : 0 ≤ k) (hr : r = 0) (hl : 0 < L.length) (ho : n ≤ (lastV L).n ∨ n < (lastV L).r) :
    Calls Try.prog 13 #[u, .agg #[.int .i64 n, .int .i64 r, .int .i64 k, s]] w fun e w' => e = .returned (.tuple #[.slice none 0 0, .int .i64 19]) ∧ Below w.heap.size w w' := by
  have hval := fun (w' : World) (hb : Below w.heap.size w w') => pvalc_any M u w' (hv.below hb) (by have := hm.len; omega)
  rw [hm.val, hz] at hval
  obtain ⟨a, cap, rfl⟩ := hv.shape
  have HVAL := Lib.hid hval
  obtain ⟨sa, sc, rfl⟩ := hs.shape
  have g1 : ¬ n < 1 := by omega
  have g2 : ¬ k < 0 := by omega
  subst hr
  obtain ⟨N, hN⟩ : ∃ N, L.length = N + 1 := ⟨L.length - 1, by omega⟩
  have hlt : N < L.length := by omega
  have hml := hm.len
  have hat := hm.at_ hlt
  have hcl := fun (w' : World) (hb : Below w.heap.size w w') => (hv.below hb).at_ (show N < M.length by omega)
  have hlk : lastV L = L.getD N Vn.z := by unfold lastV; rw [hN, Nat.add_sub_cancel]
  rw [hlk] at ho
  have HLK := Lib.hid hlk
  generalize hy : L.getD N Vn.z = y at *
  generalize M.getD N Vs.z = x at *
  obtain ⟨xn, xr, xk, xs⟩ := x
  obtain ⟨yn, yr, yk, yp⟩ := y
  obtain ⟨e1, e2, e3, hown⟩ := hat
  have e1 : xn = yn := e1
  have e2 : xr = yr := e2
  have e3 : xk = yk := e3
  subst e1 e2 e3
  have hown : OwnI 0 yp xs w := hown
  obtain ⟨xa, xc, rfl⟩ := hown.rd.shape
  have HCL : Hid (∀ w' : World, Below w.heap.size w w' → ∃ b off, a = some ⟨b, off, none⟩ ∧ b < w'.heap.size ∧ w'.cell? ⟨b, off + N * 4, none⟩ = some (.int .i64 xn) ∧ w'.cell? ⟨b, off + N * 4 + 1, none⟩ = some (.int .i64 xr) ∧ w'.cell? ⟨b, off + N * 4 + 2, none⟩ = some (.int .i64 xk) ∧ w'.cell? ⟨b, off + N * 4 + 3, none⟩ = some (.slice xa yp.length xc)) := Lib.hid hcl
  have hj1 : IntKind.i64.wrap ((L.length : Int) - 1) = (N : Int) := by rw [IntKind.wrap_i64]; omega
  have hj4 : wrap64 ((L.length : Int) - 1) = (N : Int) := by unfold wrap64; omega
  have hj3 : (N : Int) < (L.length : Int) := by omega
  have hj5 : (0 : Int) < (L.length : Int) := by omega
  have hj6 : ¬ ((L.length : Int) = 0) := by omega
  have HML := Lib.hid hml
  have HY := Lib.hid hy
  clear hy
  have HN := Lib.hid hN
  have ho : n ≤ xn ∨ n < xr := ho
  rw [hml] at HVAL ⊢
  clear hv hm hval hs hpl h0 h1 hml hcl hown hlk hN hl
  by_cases g3 : n ≤ xn
  · clear ho
    go_enter Try.func13, Try.ntmps13
    go_upto_region 8 with (go_at_call 11; refine (HVAL.out _ (b1 _)).mono ?_; rintro e w1 ⟨rfl, hb1⟩; obtain ⟨c0, c1, c2, c3⟩ := vs_box (w := w) (by simpa using hb1); have B1 := Lib.hid (bgo (b1 _) hb1); have BX := Lib.hid hb1; have hwl : w.heap.size < w1.heap.size := Nat.lt_of_lt_of_le (by simp) hb1.size; clear hb1)
    obtain ⟨b, off, rfl, -, l0, l1, l2, l3⟩ := HCL.out w1 B1.out
    go_wp2
    go_ret2
    exact ⟨rfl, bal B1.out _⟩
  · have g4 : n < xr := by omega
    clear ho
    go_enter Try.func13, Try.ntmps13
    go_upto_region 8 with (go_at_call 11; refine (HVAL.out _ (b1 _)).mono ?_; rintro e w1 ⟨rfl, hb1⟩; obtain ⟨c0, c1, c2, c3⟩ := vs_box (w := w) (by simpa using hb1); have B1 := Lib.hid (bgo (b1 _) hb1); have BX := Lib.hid hb1; have hwl : w.heap.size < w1.heap.size := Nat.lt_of_lt_of_le (by simp) hb1.size; clear hb1)
    obtain ⟨b, off, rfl, -, l0, l1, l2, l3⟩ := HCL.out w1 B1.out
    go_wp2
    go_ret2
    exact ⟨rfl, bal B1.out _⟩
set_option maxRecDepth 100000 in
set_option maxHeartbeats 4000000 in
theorem papp_ok (hv : RdVs M u w) (hm : VmAt 0 M L w) (hL : L.length ≤ 1000) (hpl : ∀ x ∈ L, x.p.length ≤ 1000000) (hs : RdI p s w) (hz : valV L = 0) (h0 : 1 ≤ n ∧ n ≤ 9223372036854775807) (h1 : 0 ≤ k ∧ k ≤ 9223372036854775807) (hr : r = 0) (hl : 0 < L.length) (ho : ¬ (n ≤ (lastV L).n ∨ n < (lastV L).r)) (hpp : p.length ≤ 1000000) :
    Calls Try.prog 13 #[u, .agg #[.int .i64 n, .int .i64 r, .int .i64 k, s]] w fun e w' => ∃ v' M', e = .returned (.tuple #[v', .int .i64 0]) ∧ OwnVs w.heap.size M' v' w' ∧ VmAt w.heap.size M' (endV L n ++ [⟨n, r, k, p⟩]) w' ∧ Below w.heap.size w w' := by
  have hval := fun (w' : World) (hb : Below w.heap.size w w') => pvalc_any M u w' (hv.below hb) (by have := hm.len; omega)
  rw [hm.val, hz] at hval
  obtain ⟨a, cap, rfl⟩ := hv.shape
  have HVAL := Lib.hid hval
  have HSP := Lib.hid (fun (w' : World) (hb : Below w.heap.size w w') => sep_any n r k s p w' (hs.below hb) hpp)
  have HSA := Lib.hid (fun (w' : World) (hb : Below w.heap.size w w') => sepall_any M L _ w' (hv.below hb) (hm.below hb) hL hpl)
  obtain ⟨sa, sc, rfl⟩ := hs.shape
  have g1 : ¬ n < 1 := by omega
  have g2 : ¬ k < 0 := by omega
  subst hr
  have HX : Hid (∀ a c, Vs.ok ⟨n, 0, k, .slice a p.length c⟩) := Lib.hid (fun a c => ⟨by show -9223372036854775808 ≤ n ∧ n ≤ 9223372036854775807; omega, by show (-9223372036854775808 : Int) ≤ 0 ∧ (0 : Int) ≤ 9223372036854775807; decide, by show -9223372036854775808 ≤ k ∧ k ≤ 9223372036854775807; omega, _, _, _, rfl⟩)
  obtain ⟨N, hN⟩ : ∃ N, L.length = N + 1 := ⟨L.length - 1, by omega⟩
  have hlt : N < L.length := by omega
  have hml := hm.len
  have hat := hm.at_ hlt
  have hcl := fun (w' : World) (hb : Below w.heap.size w w') => (hv.below hb).at_ (show N < M.length by omega)
  have hlk : lastV L = L.getD N Vn.z := by unfold lastV; rw [hN, Nat.add_sub_cancel]
  rw [hlk] at ho
  have HLK := Lib.hid hlk
  generalize hy : L.getD N Vn.z = y at *
  generalize M.getD N Vs.z = x at *
  obtain ⟨xn, xr, xk, xs⟩ := x
  obtain ⟨yn, yr, yk, yp⟩ := y
  obtain ⟨e1, e2, e3, hown⟩ := hat
  have e1 : xn = yn := e1
  have e2 : xr = yr := e2
  have e3 : xk = yk := e3
  subst e1 e2 e3
  have hown : OwnI 0 yp xs w := hown
  obtain ⟨xa, xc, rfl⟩ := hown.rd.shape
  have HCL : Hid (∀ w' : World, Below w.heap.size w w' → ∃ b off, a = some ⟨b, off, none⟩ ∧ b < w'.heap.size ∧ w'.cell? ⟨b, off + N * 4, none⟩ = some (.int .i64 xn) ∧ w'.cell? ⟨b, off + N * 4 + 1, none⟩ = some (.int .i64 xr) ∧ w'.cell? ⟨b, off + N * 4 + 2, none⟩ = some (.int .i64 xk) ∧ w'.cell? ⟨b, off + N * 4 + 3, none⟩ = some (.slice xa yp.length xc)) := Lib.hid hcl
  have hj1 : IntKind.i64.wrap ((L.length : Int) - 1) = (N : Int) := by rw [IntKind.wrap_i64]; omega
  have hj4 : wrap64 ((L.length : Int) - 1) = (N : Int) := by unfold wrap64; omega
  have hj3 : (N : Int) < (L.length : Int) := by omega
  have hj5 : (0 : Int) < (L.length : Int) := by omega
  have hj6 : ¬ ((L.length : Int) = 0) := by omega
  have HML := Lib.hid hml
  have HY := Lib.hid hy
  clear hy
  have HN := Lib.hid hN
  have ho : ¬ (n ≤ xn ∨ n < xr) := ho
  have g3 : ¬ n ≤ xn := fun h => ho (.inl h)
  have g4 : ¬ n < xr := fun h => ho (.inr h)
  have HNB := Lib.hid h0
  have HL := Lib.hid hL
  rw [hml] at HVAL HSA ⊢
  clear hv hm hval hs hpl h0 h1 hml hcl hown hlk hN hl ho
  go_enter Try.func13, Try.ntmps13
  go_upto_region 8 with (go_at_call 11; refine (HVAL.out _ (b1 _)).mono ?_; rintro e w1 ⟨rfl, hb1⟩; obtain ⟨c0, c1, c2, c3⟩ := vs_box (w := w) (by simpa using hb1); have B1 := Lib.hid (bgo (b1 _) hb1); have BX := Lib.hid hb1; have hwl : w.heap.size < w1.heap.size := Nat.lt_of_lt_of_le (by simp) hb1.size; clear hb1)
  obtain ⟨b, off, rfl, -, l0, l1, l2, l3⟩ := HCL.out w1 B1.out
  go_upto_region 11 with fail
  have BX2 := Lib.hid (bal BX.out (.cells #[.int .i64 xn, .int .i64 xr, .int .i64 xk, .slice xa yp.length xc] 33))
  have B2 := Lib.hid (bal B1.out (.cells #[.int .i64 xn, .int .i64 xr, .int .i64 xk, .slice xa yp.length xc] 33))
  have d1 : (w1.alloc (.cells #[.int .i64 xn, .int .i64 xr, .int .i64 xk, .slice xa yp.length xc] 33)).cell? ⟨w1.heap.size, 1, none⟩ = some (.int .i64 xr) := by go_simp
  have hwl1 : w1.heap.size < (w1.alloc (.cells #[.int .i64 xn, .int .i64 xr, .int .i64 xk, .slice xa yp.length xc] 33)).heap.size := by simp
  clear c0 c1 c2 c3 l0 l1 l2 l3 BX B1
  generalize w1.alloc (.cells #[.int .i64 xn, .int .i64 xr, .int .i64 xk, .slice xa yp.length xc] 33) = w2 at *
  have hwl2 : w.heap.size < w2.heap.size := by omega
  obtain ⟨c0, c1, c2, c3⟩ := vs_box (w := w) (by simpa using BX2.out)
  clear BX2
  have HW1 := Lib.hid hwl1
  have HW2 := Lib.hid hwl2
  clear hwl1 hwl2 hwl
  go_region_law (first
    | ((try go_simp); go_at_call 28; (with_reducible refine (HSA.out _ (by first | exact B2.out | exact B2.out.drew)).mono ?_); rintro e w3 ⟨v3, M3, rfl, ho3, hm3, hb3⟩; obtain ⟨a3, c3', rfl⟩ := ho3.rd.shape; have HO3 : Hid (OwnVs w2.heap.size M3 _ w3) := Lib.hid ho3; have HM3 : Hid (VmAt w2.heap.size M3 L w3) := Lib.hid hm3; have C3 : Hid (Below w2.heap.size w2 w3) := Lib.hid (by first | exact hb3 | exact (Below.refl _ _).drew.trans hb3); clear ho3 hm3 hb3; obtain ⟨q0, q1, q2, q3⟩ := And.intro (((bcell C3.out).1 w.heap.size 0 HW2.out).trans c0) (And.intro (((bcell C3.out).1 w.heap.size 1 HW2.out).trans c1) (And.intro (((bcell C3.out).1 w.heap.size 2 HW2.out).trans c2) (((bcell C3.out).1 w.heap.size 3 HW2.out).trans c3))))
    | ((try go_simp); go_at_call 27; (with_reducible refine (HSP.out _ (by first | exact bgo B2.out C3.out | exact (bgo B2.out C3.out).drew)).mono ?_); rintro e w4 ⟨s4, rfl, ho4, hb4⟩; obtain ⟨ya, yc, rfl⟩ := ho4.rd.shape; have HS4 : Hid (OwnI w2.heap.size p _ w4) := Lib.hid (ho4.mono C3.out.size); have D4 : Hid (Below w3.heap.size w3 w4) := Lib.hid (by first | exact hb4 | exact (Below.refl _ _).drew.trans hb4); have C4 : Hid (Below w2.heap.size w2 w4) := Lib.hid (bgo C3.out D4.out); clear ho4 hb4)
    | (refine step_appVsk rfl _ _ 22 rfl w2.heap.size M3 [⟨n, 0, k, .slice ya p.length yc⟩] _ _ rfl rfl ((HO3.out.below D4.out).alloc _) (OwnVs.one (HX.out ya yc) w4).rd.src ?_ ?_ ?_; (have := C4.out.size; simp; omega); (have := HM3.out.len; have := HL.out; simp; omega); intro v5 w5 ho5 hb5 hk5; have HO5 : Hid (OwnVs w2.heap.size (M3 ++ [⟨n, 0, k, .slice ya p.length yc⟩]) v5 w5) := Lib.hid ho5; have C5 : Hid (Below w2.heap.size w2 w5) := Lib.hid ((C4.out.alloc C4.out.size _).trans hb5); have HM5 : Hid (VmAt w2.heap.size (M3 ++ [⟨n, 0, k, .slice ya p.length yc⟩]) (L ++ [⟨n, 0, k, p⟩]) w5) := Lib.hid ((((HM3.out.below D4.out).snoc (m := ⟨n, 0, k, .slice ya p.length yc⟩) (p := ⟨n, 0, k, p⟩) ⟨rfl, rfl, rfl, HS4.out⟩).below (b1 _)).kpt (hk5 _ ne_int_vs)); clear ho5 hb5 hk5))
  all_goals
    have e1 := ((bcell C5.out).1 w1.heap.size 1 HW1.out).trans d1
    have e0 := ((bcell C5.out).1 w.heap.size 0 HW2.out).trans c0
    have HLM : Hid ((M3 ++ [(⟨n, 0, k, .slice ya p.length yc⟩ : Vs)]).length = L.length + 1) := Lib.hid (by have := HM3.out.len; simp; omega)
    obtain ⟨a5, c5, rfl⟩ := HO5.out.rd.shape
    obtain ⟨g5, rfl, hg5, -, -, -, -⟩ := HO5.out.block (by rw [HLM.out]; omega)
    have HG5 := Lib.hid hg5
    have hps := HM5.out.pos (j := N) (by have := HN.out; simp; omega)
    have hgn : (L ++ [(⟨n, 0, k, p⟩ : Vn)]).getD N Vn.z = ⟨xn, xr, xk, yp⟩ := by
      rw [← HY.out]; simp only [List.getD_eq_getElem?_getD]; rw [List.getElem?_append_left (by have := HN.out; omega)]
    rw [hgn] at hps
    have HPS := Lib.hid hps
    have HN5 : Hid (N < (M3 ++ [(⟨n, 0, k, .slice ya p.length yc⟩ : Vs)]).length) := Lib.hid (by rw [HLM.out]; omega)
    have hc5 := (HO5.out.cellsAt HN5.out).2.1
    have hf5 := HO5.out.frozen (N * 4 + 1)
    have HST := Lib.hid (HO5.out.storedC HN5.out (c := n) ⟨by have := HNB.out; omega, HNB.out.2⟩)
    have HKP := Lib.hid (HO5.out.kpst1 (by have := HN5.out; omega) (N * 4 + 1) (.int .i64 n))
    have hj7 : (N : Int) < (L.length : Int) + 1 := by omega
    rw [HLM.out] at HO5 HST
    rw [HLM.out]
    clear hps hgn hg5 c0 c1 c2 c3 q0 q1 q2 q3 d1
    by_cases hx0 : xr = 0
    · have HE : Hid (endV L n ++ [(⟨n, 0, k, p⟩ : Vn)] = (L ++ [(⟨n, 0, k, p⟩ : Vn)]).set N ⟨xn, n, xk, yp⟩) := Lib.hid (by
        unfold endV; rw [HLK.out, if_pos hx0, HN.out, Nat.add_sub_cancel, List.set_append_left _ _ (by have := HN.out; omega)])
      subst hx0
      go_wp2
      go_ret2
      exact ⟨_, rfl, _, HST.out.mono (Nat.le_of_lt HW2.out), by rw [HE.out]; exact ((HM5.out.kpt HKP.out).set N ⟨HPS.out.1, rfl, HPS.out.2.2.1, HPS.out.2.2.2.kpt HKP.out⟩).mono (Nat.le_of_lt HW2.out), bset (bgo B2.out C5.out) _ _ _ (Nat.le_trans B2.out.size HG5.out)⟩
    · have HE : Hid (endV L n = L) := Lib.hid (by unfold endV; rw [HLK.out, if_neg hx0])
      have hx1 : (xr == 0) = false := by simpa using hx0
      go_wp2
      go_ret2
      exact ⟨_, rfl, _, HO5.out.mono (Nat.le_of_lt HW2.out), by rw [HE.out]; exact HM5.out.mono (Nat.le_of_lt HW2.out), bgo B2.out C5.out⟩
end
end Go.Proofs.Ytakickggpfbafaa
