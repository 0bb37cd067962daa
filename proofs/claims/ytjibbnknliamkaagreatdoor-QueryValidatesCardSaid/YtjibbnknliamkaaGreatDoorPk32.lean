/- Law13V, ArgsQ: in one text. -/
import Derived.Test.YtjibbnknliamkaaGreatDoorPk29
import Derived.Test.YtjibbnknliamkaaGreatDoorPk27
import Derived.Test.YtjibbnknliamkaaGreatDoorPk30
import Derived.Test.YtjibbnknliamkaaGreatDoorPk31
import Derived.Lib.SmallJoins
import Derived.Deep.Slices
namespace Go.Proofs.YtjibbnknliamkaaGreatDoor
open Go Go.RowKit
set_option linter.unusedVariables false
set_option linter.unusedSimpArgs false
theorem mask_64k (n : Int) : bits .and .i64 n 65535 = n % 65536 := i64_mask 16 (by decide) n
section
variable {ops : Array Oper} {rest : List Oper} {o : Oper} {a : Act} {w : World} {Q : Exit → Act → World → Prop}
theorem run_and64 {x : Operand} {n : Int} (ho : o.op = .binOp .and 3 x (.const (.int .i64 65535)) 3) (h : a.eval x = .int .i64 n) : (execOp a.eval o).run Tryz.prog w = .ok (.value (.int .i64 (n % 65536))) w := by
  have hm := mask_64k n
  unfold execOp
  simp only [ho, h]
  go_simp
end
set_option maxRecDepth 100000 in
set_option maxHeartbeats 2000000 in
theorem queryValidates_walk (k : Int) (K : ByteArray) (n u d : Int) (m : Int) (W : World) (wk : (Lit.int .i64 k).wf = true) (wK : K.size ≤ maxLen) (wn : (Lit.int .i64 n).wf = true) (wu : (Lit.int .i64 u).wf = true) (wd : (Lit.int .i64 d).wf = true) (wm : (Lit.int .i64 m).wf = true) (ht : SupT W) :
    Calls Tryz.prog 3 #[.agg #[.int .i64 k, .string K, .int .i64 n, .int .i64 u, .int .i64 d], .int .i64 m] W fun e w' => e = .returned (.bool true) ∧ Below W.heap.size W w' := by
  have H9 := Lib.hid (fun (w : World) (h : SupT w) => known13_any w h)
  have T0 := Lib.hid ht
  have HP := Lib.hid (fun w => pqv_any k K n u d w wK)
  have HR := Lib.hid (fun w => rqv_any k K n u d w wK)
  generalize qrE k K n u d = E1 at *
  have HB := Lib.hid (fun w => baq_any (m % 65536) w (by omega) (by omega))
  obtain ⟨k3, K3, n3, u3, d3, hK3, h3, HQ0⟩ := bq_any (m % 65536) (by omega) (by omega)
  have HQ := Lib.hid HQ0
  have HP3 := Lib.hid (fun w => pqv_any k3 K3 n3 u3 d3 w hK3)
  rw [h3] at HP3
  have hm := mask_64k m
  unfold maxLen at wK
  clear wk wn wu wd wm ht hK3 h3 HQ0
  by_cases hl : 200 < K.size
  · have hl2 : (200 : Int) < (K.size : Int) := by omega
    go_enter Tryz.func3, Tryz.ntmps3
    go_wp2_with (go_at_call 9; (with_reducible refine (H9.out _ (T0.out.go (b1 _))).mono ?_); rintro e w1 ⟨rfl, hb1⟩; have B1 := Lib.hid (bgo (b1 _) hb1); clear hb1)
    go_ret
    exact ⟨rfl, B1.out⟩
  · have hl2 : ¬ (200 : Int) < (K.size : Int) := by omega
    go_enter Tryz.func3, Tryz.ntmps3
    go_upto_region 4 with (first
      | (go_at_call 10; (with_reducible refine (HB.out _).mono ?_); rintro e w1 ⟨k2, K2, n2, u2, d2, rfl, hK2, hb1⟩; have HP2 := Lib.hid (fun w => pqv_any k2 K2 n2 u2 d2 w hK2); have HR2 := Lib.hid (fun w => rqv_any k2 K2 n2 u2 d2 w hK2); generalize qrE k2 K2 n2 u2 d2 = E2 at HP2 HR2; have R1 := Lib.hid ((RowAt.new W #[.int .i64 k, .string K, .int .i64 n, .int .i64 u, .int .i64 d] 23).go hb1); have B1 := Lib.hid (bgo (b1 _) hb1); clear hb1 hK2)
      | (refine stQr rfl rfl rfl (RowAt.new w1 _ _) rfl rfl rfl rfl ?_; intro w2 r2 o2; have S2 := Lib.hid r2; have D2 := Lib.hid (Below.trans (b1 _) (o2.1 : Below w1.heap.size _ w2)); have R2 := Lib.hid (R1.out.go D2.out); have B2 := Lib.hid (bgo B1.out D2.out); have T2 := Lib.hid (T0.out.go B2.out); clear r2 o2 D2 R1 B1))
    rename_i K' hK
    refine wp_region_quiet (C := fun w' => Below w2.heap.size w2 w') (by kernel_rfl) (by kernel_rfl) ⟨rfl, rfl, rfl, Nat.le_refl _, fun _ _ => rfl⟩ ?_
    refine wpQuiet_do (v := .agg #[.int .i64 k, .string K, .int .i64 n, .int .i64 u, .int .i64 d]) rfl (fun w' hc => quiet_value (run_part rfl rfl (R2.out.go hc) Tryz.underlying23 rfl infQr rfl)) ?_
    try simp only [Act.put, List.getElem_toArray, List.getElem_cons_zero, List.getElem_cons_succ, List.setIfInBounds_toArray, List.set_cons_zero, List.set_cons_succ]
    refine wpQuiet_do (v := .int .i64 E1) rfl (fun w' hc => quiet_enter (run_call1 (Go.Proofs.enters_of Tryz.func11 (by kernel_rfl) rfl) rfl rfl) ((HP.out w').mono (fun e w'' h => ⟨h.1, bgo hc h.2⟩))) ?_
    try simp only [Act.put, List.getElem_toArray, List.getElem_cons_zero, List.getElem_cons_succ, List.setIfInBounds_toArray, List.set_cons_zero, List.set_cons_succ]
    refine wpQuiet_do (v := .agg #[.int .i64 k, .string K, .int .i64 n, .int .i64 u, .int .i64 d]) rfl (fun w' hc => quiet_value (run_part rfl rfl (R2.out.go hc) Tryz.underlying23 rfl infQr rfl)) ?_
    try simp only [Act.put, List.getElem_toArray, List.getElem_cons_zero, List.getElem_cons_succ, List.setIfInBounds_toArray, List.set_cons_zero, List.set_cons_succ]
    refine wpQuiet_do (v := .int .i64 E1) rfl (fun w' hc => quiet_enter (run_call1 (Go.Proofs.enters_of Tryz.func12 (by kernel_rfl) rfl) rfl rfl) ((HR.out w').mono (fun e w'' h => ⟨h.1, bgo hc h.2⟩))) ?_
    try simp only [Act.put, List.getElem_toArray, List.getElem_cons_zero, List.getElem_cons_succ, List.setIfInBounds_toArray, List.set_cons_zero, List.set_cons_succ]
    refine wpQuiet_do (v := .bool true) rfl (fun w' hc => quiet_value (eqEr rfl rfl rfl)) ?_
    try simp only [Act.put, List.getElem_toArray, List.getElem_cons_zero, List.getElem_cons_succ, List.setIfInBounds_toArray, List.set_cons_zero, List.set_cons_succ]
    refine wpQuiet_do (v := .bool true) rfl (fun w' hc => quiet_value (run_mv rfl rfl)) ?_
    try simp only [Act.put, List.getElem_toArray, List.getElem_cons_zero, List.getElem_cons_succ, List.setIfInBounds_toArray, List.set_cons_zero, List.set_cons_succ]
    refine wpQuiet_if (p := true) (v := .agg #[.int .i64 k2, .string K2, .int .i64 n2, .int .i64 u2, .int .i64 d2]) rfl (fun _ w' hc => quiet_value (run_part rfl rfl (S2.out.go hc) Tryz.underlying23 rfl infQr rfl)) ?_
    try simp only [Act.put, List.getElem_toArray, List.getElem_cons_zero, List.getElem_cons_succ, List.setIfInBounds_toArray, List.set_cons_zero, List.set_cons_succ]
    refine wpQuiet_if (p := true) (v := .int .i64 E2) rfl (fun _ w' hc => quiet_enter (run_call1 (Go.Proofs.enters_of Tryz.func11 (by kernel_rfl) rfl) rfl rfl) ((HP2.out w').mono (fun e w'' h => ⟨h.1, bgo hc h.2⟩))) ?_
    try simp only [Act.put, List.getElem_toArray, List.getElem_cons_zero, List.getElem_cons_succ, List.setIfInBounds_toArray, List.set_cons_zero, List.set_cons_succ]
    refine wpQuiet_if (p := true) (v := .agg #[.int .i64 k2, .string K2, .int .i64 n2, .int .i64 u2, .int .i64 d2]) rfl (fun _ w' hc => quiet_value (run_part rfl rfl (S2.out.go hc) Tryz.underlying23 rfl infQr rfl)) ?_
    try simp only [Act.put, List.getElem_toArray, List.getElem_cons_zero, List.getElem_cons_succ, List.setIfInBounds_toArray, List.set_cons_zero, List.set_cons_succ]
    refine wpQuiet_if (p := true) (v := .int .i64 E2) rfl (fun _ w' hc => quiet_enter (run_call1 (Go.Proofs.enters_of Tryz.func12 (by kernel_rfl) rfl) rfl rfl) ((HR2.out w').mono (fun e w'' h => ⟨h.1, bgo hc h.2⟩))) ?_
    try simp only [Act.put, List.getElem_toArray, List.getElem_cons_zero, List.getElem_cons_succ, List.setIfInBounds_toArray, List.set_cons_zero, List.set_cons_succ]
    refine wpQuiet_if (p := true) (v := .bool true) rfl (fun _ w' hc => quiet_value (eqEr rfl rfl rfl)) ?_
    try simp only [Act.put, List.getElem_toArray, List.getElem_cons_zero, List.getElem_cons_succ, List.setIfInBounds_toArray, List.set_cons_zero, List.set_cons_succ]
    refine wpQuiet_do (v := .bool (true && true)) rfl (fun w' hc => quiet_value (run_pk rfl rfl rfl)) ?_
    try simp only [Act.put, List.getElem_toArray, List.getElem_cons_zero, List.getElem_cons_succ, List.setIfInBounds_toArray, List.set_cons_zero, List.set_cons_succ]
    refine wpQuiet_do (v := .bool true) rfl (fun w' hc => quiet_value (run_mv rfl rfl)) ?_
    try simp only [Act.put, List.getElem_toArray, List.getElem_cons_zero, List.getElem_cons_succ, List.setIfInBounds_toArray, List.set_cons_zero, List.set_cons_succ]
    refine wpQuiet_if (p := true) (v := .int .i64 m) rfl (fun _ w' hc => quiet_value (run_mv rfl rfl)) ?_
    try simp only [Act.put, List.getElem_toArray, List.getElem_cons_zero, List.getElem_cons_succ, List.setIfInBounds_toArray, List.set_cons_zero, List.set_cons_succ]
    refine wpQuiet_if (p := true) (v := .int .i64 (m % 65536)) rfl (fun _ w' hc => quiet_value (run_and64 rfl rfl)) ?_
    try simp only [Act.put, List.getElem_toArray, List.getElem_cons_zero, List.getElem_cons_succ, List.setIfInBounds_toArray, List.set_cons_zero, List.set_cons_succ]
    refine wpQuiet_if (p := true) (v := .agg #[.int .i64 k3, .string K3, .int .i64 n3, .int .i64 u3, .int .i64 d3]) rfl (fun _ w' hc => quiet_enter (run_call1 (Go.Proofs.enters_of Tryz.func13 (by kernel_rfl) rfl) rfl rfl) ((HQ.out w').mono (fun e w'' h => ⟨h.1, bgo hc h.2⟩))) ?_
    try simp only [Act.put, List.getElem_toArray, List.getElem_cons_zero, List.getElem_cons_succ, List.setIfInBounds_toArray, List.set_cons_zero, List.set_cons_succ]
    refine wpQuiet_if (p := true) (v := .int .i64 0) rfl (fun _ w' hc => quiet_enter (run_call1 (Go.Proofs.enters_of Tryz.func11 (by kernel_rfl) rfl) rfl rfl) ((HP3.out w').mono (fun e w'' h => ⟨h.1, bgo hc h.2⟩))) ?_
    try simp only [Act.put, List.getElem_toArray, List.getElem_cons_zero, List.getElem_cons_succ, List.setIfInBounds_toArray, List.set_cons_zero, List.set_cons_succ]
    refine wpQuiet_if (p := true) (v := .bool true) rfl (fun _ w' hc => quiet_value (eqEr rfl rfl rfl)) ?_
    try simp only [Act.put, List.getElem_toArray, List.getElem_cons_zero, List.getElem_cons_succ, List.setIfInBounds_toArray, List.set_cons_zero, List.set_cons_succ]
    refine wpQuiet_do (v := .bool (true && true)) rfl (fun w' hc => quiet_value (run_pk rfl rfl rfl)) ?_
    try simp only [Act.put, List.getElem_toArray, List.getElem_cons_zero, List.getElem_cons_succ, List.setIfInBounds_toArray, List.set_cons_zero, List.set_cons_succ]
    refine wpQuiet_do (v := .bool true) rfl (fun w' hc => quiet_value (run_mv rfl rfl)) ?_
    try simp only [Act.put, List.getElem_toArray, List.getElem_cons_zero, List.getElem_cons_succ, List.setIfInBounds_toArray, List.set_cons_zero, List.set_cons_succ]
    refine wpQuiet_if (p := true) (v := .bool true) rfl (fun _ w' hc => quiet_enter (run_call0 (Go.Proofs.enters_of Tryz.func9 (by kernel_rfl) rfl) rfl) ((H9.out w' (T2.out.go hc)).mono (fun e w'' h => ⟨h.1, bgo hc h.2⟩))) ?_
    try simp only [Act.put, List.getElem_toArray, List.getElem_cons_zero, List.getElem_cons_succ, List.setIfInBounds_toArray, List.set_cons_zero, List.set_cons_succ]
    refine wpQuiet_do (v := .bool (true && true)) rfl (fun w' hc => quiet_value (run_pk rfl rfl rfl)) ?_
    try simp only [Act.put, List.getElem_toArray, List.getElem_cons_zero, List.getElem_cons_succ, List.setIfInBounds_toArray, List.set_cons_zero, List.set_cons_succ]
    refine wpQuiet_do (v := .bool true) rfl (fun w' hc => quiet_value (run_as rfl rfl)) ?_
    try simp only [Act.put, List.getElem_toArray, List.getElem_cons_zero, List.getElem_cons_succ, List.setIfInBounds_toArray, List.set_cons_zero, List.set_cons_succ]
    refine wpQuiet_nil ?_
    intro w7 hw7
    have B7 := Lib.hid (bgo B2.out hw7)
    refine hK _ _ ?_
    clear hK hw7
    refine wp_ret ?_
    go_ret
    exact ⟨rfl, B7.out⟩
end Go.Proofs.YtjibbnknliamkaaGreatDoor
namespace Go.Proofs.YtjibbnknliamkaaGreatDoor
open Go Go.ChangeShapes Go.WideShapes Go.ChangeAt Go.RowKit Go.Joins Go.Deep
set_option linter.unusedVariables false
set_option linter.unusedSimpArgs false
theorem array_five {α : Type} {cs : Array α} (h : cs.size = 5) : ∃ c0 c1 c2 c3 c4, cs = #[c0, c1, c2, c3, c4] := by
  obtain ⟨l⟩ := cs
  match l, h with
  | [c0, c1, c2, c3, c4], _ => exact ⟨c0, c1, c2, c3, c4, rfl⟩
section
variable {H : Type} {enc : TypeId × Value → H} {P : Program} {w : World} {base : Nat} {spare : Nat → Bool} {held : Bool}
/-- Opened: five cells, each with its reading. -/
theorem opened5 {r : Reach} {b0 : Nat} {t : TypeId} {f0 f1 f2 f3 f4 : Field} {v : Value} {d : DataW H} {p : List MemPlace} (hs : P.underlying t = some (.struct #[f0, f1, f2, f3, f4])) (hone : oneCellFields P #[f0, f1, f2, f3, f4] = true) (hC : P.cellsOf t = 5)
    (hv : Value.okWide P w r b0 t v) (h : DataW.Trod enc P w base spare held t v d p) :
    ∃ (v0 v1 v2 v3 v4 : Value) (y0 y1 y2 y3 y4 : DataW H × List MemPlace) (n : Nat), v = .agg #[v0, v1, v2, v3, v4] ∧ d = .agg [y0.1, y1.1, y2.1, y3.1, y4.1] ∧ p = y0.2 ++ (y1.2 ++ (y2.2 ++ (y3.2 ++ y4.2))) ∧
      DataW.trod enc P w base spare held n f0.type [v0] = some y0 ∧ DataW.trod enc P w base spare held n f1.type [v1] = some y1 ∧ DataW.trod enc P w base spare held n f2.type [v2] = some y2 ∧ DataW.trod enc P w base spare held n f3.type [v3] = some y3 ∧ DataW.trod enc P w base spare held n f4.type [v4] = some y4 := by
  obtain ⟨cs, rfl, hsz⟩ := okWide_struct hs hv
  obtain ⟨c0, c1, c2, c3, c4, rfl⟩ := array_five (hsz.trans hC)
  obtain ⟨fuel, hf⟩ := h
  obtain ⟨xs, n, _, hx, _, hlen, hg⟩ := DataW.trod_struct hs hf
  match xs, hlen with
  | [y0, y1, y2, y3, y4], _ =>
    obtain ⟨o0, k0⟩ := hone_of hone 0 f0 rfl
    obtain ⟨o1, k1⟩ := hone_of hone 1 f1 rfl
    obtain ⟨o2, k2⟩ := hone_of hone 2 f2 rfl
    obtain ⟨o3, k3⟩ := hone_of hone 3 f3 rfl
    obtain ⟨o4, k4⟩ := hone_of hone 4 f4 rfl
    have h0 := hg 0 f0 rfl
    have h1 := hg 1 f1 rfl
    have h2 := hg 2 f2 rfl
    have h3 := hg 3 f3 rfl
    have h4 := hg 4 f4 rfl
    simp only [Prod.mk.injEq] at hx
    exact ⟨c0, c1, c2, c3, c4, y0, y1, y2, y3, y4, n, rfl, hx.1, by simpa using hx.2, by simpa [Value.cells, o0, k0] using h0, by simpa [Value.cells, o1, k1] using h1, by simpa [Value.cells, o2, k2] using h2, by simpa [Value.cells, o3, k3] using h3, by simpa [Value.cells, o4, k4] using h4⟩
/-- Shut: each field by its own fuel. -/
theorem shut5 {t : TypeId} {f0 f1 f2 f3 f4 : Field} {v0 v1 v2 v3 v4 : Value} {y0 y1 y2 y3 y4 : DataW H × List MemPlace} (hs : P.underlying t = some (.struct #[f0, f1, f2, f3, f4])) (hone : oneCellFields P #[f0, f1, f2, f3, f4] = true) (hC : P.cellsOf t = 5)
    (t0 : ∃ n, DataW.trod enc P w base spare held n f0.type [v0] = some y0) (t1 : ∃ n, DataW.trod enc P w base spare held n f1.type [v1] = some y1) (t2 : ∃ n, DataW.trod enc P w base spare held n f2.type [v2] = some y2) (t3 : ∃ n, DataW.trod enc P w base spare held n f3.type [v3] = some y3) (t4 : ∃ n, DataW.trod enc P w base spare held n f4.type [v4] = some y4) :
    DataW.Trod enc P w base spare held t (.agg #[v0, v1, v2, v3, v4]) (.agg [y0.1, y1.1, y2.1, y3.1, y4.1]) (y0.2 ++ (y1.2 ++ (y2.2 ++ (y3.2 ++ y4.2)))) := by
  obtain ⟨n0, t0⟩ := t0
  obtain ⟨n1, t1⟩ := t1
  obtain ⟨n2, t2⟩ := t2
  obtain ⟨n3, t3⟩ := t3
  obtain ⟨n4, t4⟩ := t4
  obtain ⟨o0, k0⟩ := hone_of hone 0 f0 rfl
  obtain ⟨o1, k1⟩ := hone_of hone 1 f1 rfl
  obtain ⟨o2, k2⟩ := hone_of hone 2 f2 rfl
  obtain ⟨o3, k3⟩ := hone_of hone 3 f3 rfl
  obtain ⟨o4, k4⟩ := hone_of hone 4 f4 rfl
  have u0 := DataW.trod_le (show n0 ≤ n0 + n1 + n2 + n3 + n4 by omega) t0
  have u1 := DataW.trod_le (show n1 ≤ n0 + n1 + n2 + n3 + n4 by omega) t1
  have u2 := DataW.trod_le (show n2 ≤ n0 + n1 + n2 + n3 + n4 by omega) t2
  have u3 := DataW.trod_le (show n3 ≤ n0 + n1 + n2 + n3 + n4 by omega) t3
  have u4 := DataW.trod_le (show n4 ≤ n0 + n1 + n2 + n3 + n4 by omega) t4
  have ts := trod_struct_mk (enc := enc) (w := w) (base := base) (spare := spare) (held := held) (n := n0 + n1 + n2 + n3 + n4) (cs := [v0, v1, v2, v3, v4]) (xs := [y0, y1, y2, y3, y4]) hs (by simp [hC]) (by simp [o0, o1, o2, o3, o4, k0, k1, k2, k3, k4, u0, u1, u2, u3, u4])
  exact ⟨_, by simpa [Value.cells] using ts⟩
end
end Go.Proofs.YtjibbnknliamkaaGreatDoor
