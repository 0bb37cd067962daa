/- Law13P: in one text. -/
import Derived.Test.YtjibbnknliamkaaGreatDoorPg35
import Derived.Test.YtjibbnknliamkaaGreatDoorPg36
import Derived.Test.YtjibbnknliamkaaGreatDoorPg07
import Derived.Test.YtjibbnknliamkaaGreatDoorPg06
import Derived.Test.YtjibbnknliamkaaGreatDoorPg01
import Derived.Test.YtjibbnknliamkaaGreatDoorPg10
import Derived.Test.YtjibbnknliamkaaGreatDoorPg00
namespace Go.Proofs.YtjibbnknliamkaaGreatDoor
open Go Go.RowKit
set_option linter.unusedVariables false
set_option linter.unusedSimpArgs false
/-- The list is in order: each entry and the next. -/
theorem srt_next {L : List Ent} (h : Sorted L) {j : Nat} (hj : j + 1 < L.length) : bef (L.getD j Ent.z) (L.getD (j + 1) Ent.z) = true := by
  have := List.pairwise_iff_getElem.1 h j (j + 1) (by omega) hj (by omega)
  rw [show L.getD j Ent.z = L[j] by simp [List.getD, show j < L.length by omega], show L.getD (j + 1) Ent.z = L[j + 1] by simp [List.getD, hj]]
  exact this
theorem keyed_set {S T K : Int} {L : List Ent} (h : ValQ S T K L) (c : Int) : Keyed (L.map (setE c)) := by
  have ha := h.asc
  unfold Keyed
  rw [List.pairwise_map]
  exact List.Pairwise.imp (fun {x y} hxy => lessK_ne hxy) ha
section
variable {ops : Array Oper} {rest : List Oper} {o : Oper} {a : Act} {w : World} {Q : Exit → Act → World → Prop}
theorem neEr0 {x : Operand} (ho : o.op = .binOp .neq 26 x (.const (.int .i64 0)) 26) (h : a.eval x = .int .i64 0) : (execOp a.eval o).run Tryz.prog w = .ok (.value (.bool false)) w := by
  unfold execOp
  simp only [ho, h]
  go_simp
end
set_option maxRecDepth 100000 in
set_option maxHeartbeats 4000000 in
theorem pages_top (L : List Int) (v : Value) (n : Int) (W : World) (hv : RdI L v W) (hn : n % 2 = 0) (ht : SupT W) :
    Calls Tryz.prog 6 #[v, .int .i64 n] W fun e w' => e = .returned (.bool true) ∧ Below W.heap.size W w' := by
  have m1 := maskq1 n
  rw [hn] at m1
  have m2 := maskq3 (n / 2)
  have m3 := maskq4 (n / 16)
  have e2 : 0 ≤ n / 2 % 8 ∧ n / 2 % 8 ≤ 7 := by omega
  have e3 : 0 ≤ n / 16 % 16 ∧ n / 16 % 16 ≤ 15 := by omega
  clear hn
  generalize n / 2 % 8 = p at *
  generalize n / 16 % 16 = c at *
  have HSk := Lib.hid (fun (w' : World) (hb : Below W.heap.size W w') => skof_top (1 + p) L v w' (by omega) (by omega) (hv.below hb))
  have H9 := Lib.hid (fun (w : World) (h : SupT w) => known13_any w h)
  have T0 := Lib.hid ht
  have E3 := Lib.hid e3
  have E2 := Lib.hid e2
  obtain ⟨a0, cap0, rfl⟩ := hv.shape
  clear hv ht e3
  go_enter Tryz.func6, Tryz.ntmps6
  go_upto_region 5 with (first
    | (refine stPm (A' := #[.int .i64 4, .int .i64 (1 + p), .int .i64 0, .int .u64 0]) rfl rfl rfl (RowAt.new W _ _) rfl rfl (all_one rfl) (show 0 + 4 ≤ 4 by decide) (by kernel_rfl) ?_; intro w1 r1 o1; have P1 := Lib.hid r1; have B1 := Lib.hid (Below.trans (b1 _) (o1.1 : Below W.heap.size _ w1)); clear r1 o1)
    | (refine ldPm (B := #[.int .i64 4, .int .i64 (1 + p), .int .i64 0, .int .u64 0]) rfl rfl rfl P1.out rfl (by kernel_rfl) ?_)
    | (go_at_call 21; (with_reducible refine (HSk.out _ B1.out).mono ?_); rintro e w2 ⟨u, s, rfl, hst, ⟨t, hh, WW, rfl, hs⟩, hb2⟩; have B2 := Lib.hid (bgo B1.out hb2); have S2 := Lib.hid (hst _ (Abv.refl _ _)); have M2 := Lib.hid hs; obtain ⟨a1, c1, a2, c2, a3, c3, a4, c4, a5, c5, rfl, hrr⟩ := S2.out.run; have RR2 := Lib.hid hrr; clear hst hb2 hrr hs)
    | (refine stWh (B := #[.int .i64 4, .int .i64 t.S, .int .i64 0, .int .u64 0, .int .i64 0, .int .i64 0, .bool false, .int .i64 0, .int .i64 0, .int .u64 0, .slice a1 0 c1, .bool false, .int .i64 0, .int .u64 0, .slice a2 0 c2, .int .i64 t.S, .int .i64 t.T, .slice a3 t.L.length c3, .bool t.s, .int .i64 0, .int .i64 0, .int .i64 0, .slice a4 0 c4, .bool false, .int .i64 0, .int .i64 0, .int .i64 0, .slice a5 0 c5, .bool false]) rfl rfl rfl (RowAt.new w2 _ _) rfl rfl rfl rfl ?_; intro w3 r3 o3; have D3 := Lib.hid (Below.trans (b1 _) (o3.1 : Below w2.heap.size _ w3)); have R3 := Lib.hid r3; have RR3 := Lib.hid (RR2.out.below D3.out); have B3 := Lib.hid (bgo B2.out D3.out); have T3 := Lib.hid (T0.out.go B3.out); have HEn : Hid (Calls Tryz.prog 18 #[.agg #[.int .i64 4, .int .i64 t.S, .int .i64 0, .int .u64 0, .int .i64 0, .int .i64 0, .bool false, .int .i64 0, .int .i64 0, .int .u64 0, .slice a1 0 c1, .bool false, .int .i64 0, .int .u64 0, .slice a2 0 c2, .int .i64 t.S, .int .i64 t.T, .slice a3 t.L.length c3, .bool t.s, .int .i64 0, .int .i64 0, .int .i64 0, .slice a4 0 c4, .bool false, .int .i64 0, .int .i64 0, .int .i64 0, .slice a5 0 c5, .bool false]] w3 fun e w' => ∃ v, e = .returned (.tuple #[v, .int .i64 0]) ∧ RdE t.L v w' ∧ Below w3.heap.size w3 w') := Lib.hid (by have hs := M2.out; exact en_top t a1 c1 a2 c2 a3 c3 a4 c4 a5 c5 w3 (by have := hs.len; have := hs.s1; omega) RR3.out (wf_fmO hs.bd (by have := hs.len; have := hs.s1; omega)) (val_fm4 (by have := hs.hS; have := hs.s0; omega) (by have := hs.hS; have := hs.s1; omega) hs.valid) T3.out); clear r3 o3 D3 B2 S2 RR2)
    | (refine ldSk (B := #[.int .i64 4, .int .i64 t.S, .int .i64 0, .int .u64 0, .int .i64 0, .int .i64 0, .bool false, .int .i64 0, .int .i64 0, .int .u64 0, .slice a1 0 c1, .bool false, .int .i64 0, .int .u64 0, .slice a2 0 c2, .int .i64 t.S, .int .i64 t.T, .slice a3 t.L.length c3, .bool t.s, .int .i64 0, .int .i64 0, .int .i64 0, .slice a4 0 c4, .bool false, .int .i64 0, .int .i64 0, .int .i64 0, .slice a5 0 c5, .bool false]) rfl rfl rfl R3.out rfl (by kernel_rfl) ?_)
    | (go_at_call 18; (with_reducible refine HEn.out.mono ?_); rintro e w4 ⟨vl, rfl, ho4, hb4⟩; obtain ⟨ab, cb, rfl⟩ := ho4.shape; have R4 := Lib.hid (R3.out.go hb4); have RR4 := Lib.hid (RR3.out.below hb4); have B4 := Lib.hid (bgo B3.out hb4); have O4 := Lib.hid ho4; obtain ⟨m, hm⟩ : ∃ m : Nat, min c ((t.L).length : Int) = (m : Int) := ⟨(min c ((t.L).length : Int)).toNat, by have := E3.out; omega⟩; have HM := Lib.hid hm; have HAs : Hid (Calls Tryz.prog 15 #[.agg #[.int .i64 4, .int .i64 t.S, .int .i64 0, .int .u64 0, .int .i64 0, .int .i64 0, .bool false, .int .i64 0, .int .i64 0, .int .u64 0, .slice a1 0 c1, .bool false, .int .i64 0, .int .u64 0, .slice a2 0 c2, .int .i64 t.S, .int .i64 t.T, .slice a3 t.L.length c3, .bool t.s, .int .i64 0, .int .i64 0, .int .i64 0, .slice a4 0 c4, .bool false, .int .i64 0, .int .i64 0, .int .i64 0, .slice a5 0 c5, .bool false], .agg #[.int .i64 5, .string ⟨#[]⟩, .int .i64 c, .int .i64 0, .int .i64 0]] w4 fun e w' => ∃ aa cc, e = .returned (.tuple #[.agg #[.int .i64 0, .int .i64 0, .string ⟨#[]⟩, .slice none 0 0, .slice aa m cc, .bool t.s], .int .i64 0]) ∧ RdE (t.L.take m) (.slice aa m cc) w' ∧ Below w4.heap.size w4 w') := Lib.hid (by have hs := M2.out; exact as_top t a1 c1 a2 c2 a3 c3 a4 c4 a5 c5 c m w4 (by have := hs.len; have := hs.s1; omega) RR4.out (wf_fmO hs.bd (by have := hs.len; have := hs.s1; omega)) (val_fm4 (by have := hs.hS; have := hs.s0; omega) (by have := hs.hS; have := hs.s1; omega) hs.valid) (by have := E3.out; omega) (by have := E3.out; omega) hm (T0.out.go B4.out)); clear hm ho4 hb4 R3 RR3 B3 T3 HEn)
    | (refine ldSk (B := #[.int .i64 4, .int .i64 t.S, .int .i64 0, .int .u64 0, .int .i64 0, .int .i64 0, .bool false, .int .i64 0, .int .i64 0, .int .u64 0, .slice a1 0 c1, .bool false, .int .i64 0, .int .u64 0, .slice a2 0 c2, .int .i64 t.S, .int .i64 t.T, .slice a3 t.L.length c3, .bool t.s, .int .i64 0, .int .i64 0, .int .i64 0, .slice a4 0 c4, .bool false, .int .i64 0, .int .i64 0, .int .i64 0, .slice a5 0 c5, .bool false]) rfl rfl rfl R4.out rfl (by kernel_rfl) ?_)
    | (go_at_call 15; (with_reducible refine HAs.out.mono ?_); rintro e w5 ⟨aa, cc, rfl, ho5, hb5⟩; have B5 := Lib.hid (bgo B4.out hb5); have O5 := Lib.hid ho5; have P5 := Lib.hid (O4.out.below hb5); clear ho5 hb5 R4 RR4 B4 O4 HAs)
    | (refine stAn (B := #[.int .i64 0, .int .i64 0, .string ⟨#[]⟩, .slice none 0 0, .slice aa m cc, .bool t.s]) rfl rfl rfl (RowAt.new w5 _ _) rfl rfl rfl rfl ?_; intro w6 r6 o6; have D6 := Lib.hid (Below.trans (b1 _) (o6.1 : Below w5.heap.size _ w6)); have A6 := Lib.hid r6; have B6 := Lib.hid (bgo B5.out D6.out); have O6 := Lib.hid (O5.out.below D6.out); have P6 := Lib.hid (P5.out.below D6.out); clear r6 o6 D6 B5 O5 P5))
  rename_i KK hKK
  have hml : m ≤ (t.L).length := by have := HM.out; omega
  have hcb : (t.L).length ≤ cb := by
    obtain ⟨_, a9, c9, he9, h9, _⟩ := P6.out
    simp only [Value.slice.injEq, true_and] at he9
    obtain ⟨rfl, rfl⟩ := he9
    exact h9
  have hmc : (m : Int) ≤ (cb : Int) := by omega
  have HSrt : Hid (Sorted t.L) := Lib.hid (by have hs := M2.out; exact hs.srt)
  have HLen : Hid ((t.L).length ≤ 32) := Lib.hid (by have hs := M2.out; have := hs.len; have := hs.s1; omega)
  have HSE := Lib.hid (fun (w' : World) (hb : Below w6.heap.size w6 w') => sameE_any ((t.L).take m) (.slice aa m cc) (.slice ab m cb) w' (O6.out.below hb) ((P6.out.cutTo m hml).below hb) (by have := HLen.out; simp; omega))
  refine wp_region_quiet (C := fun w' => Below w6.heap.size w6 w') (by kernel_rfl) (by kernel_rfl) ⟨rfl, rfl, rfl, Nat.le_refl _, fun _ _ => rfl⟩ ?_
  refine wpQuiet_do (v := .int .i64 0) rfl (fun w' hc => quiet_value (run_mv rfl rfl)) ?_
  try simp only [Act.put, List.getElem_toArray, List.getElem_cons_zero, List.getElem_cons_succ, List.setIfInBounds_toArray, List.set_cons_zero, List.set_cons_succ]
  refine wpQuiet_do (v := .bool false) rfl (fun w' hc => quiet_value (neEr0 rfl rfl)) ?_
  try simp only [Act.put, List.getElem_toArray, List.getElem_cons_zero, List.getElem_cons_succ, List.setIfInBounds_toArray, List.set_cons_zero, List.set_cons_succ]
  refine wpQuiet_do (v := .bool false) rfl (fun w' hc => quiet_value (run_mv rfl rfl)) ?_
  try simp only [Act.put, List.getElem_toArray, List.getElem_cons_zero, List.getElem_cons_succ, List.setIfInBounds_toArray, List.set_cons_zero, List.set_cons_succ]
  refine wpQuiet_if (p := true) (v := .int .i64 0) rfl (fun _ w' hc => quiet_value (run_mv rfl rfl)) ?_
  try simp only [Act.put, List.getElem_toArray, List.getElem_cons_zero, List.getElem_cons_succ, List.setIfInBounds_toArray, List.set_cons_zero, List.set_cons_succ]
  refine wpQuiet_if (p := true) (v := .bool false) rfl (fun _ w' hc => quiet_value (neEr0 rfl rfl)) ?_
  try simp only [Act.put, List.getElem_toArray, List.getElem_cons_zero, List.getElem_cons_succ, List.setIfInBounds_toArray, List.set_cons_zero, List.set_cons_succ]
  refine wpQuiet_do (v := .bool false) rfl (fun w' hc => quiet_value (run_pkF rfl rfl rfl)) ?_
  try simp only [Act.put, List.getElem_toArray, List.getElem_cons_zero, List.getElem_cons_succ, List.setIfInBounds_toArray, List.set_cons_zero, List.set_cons_succ]
  refine wpQuiet_do (v := .bool false) rfl (fun w' hc => quiet_value (run_mv rfl rfl)) ?_
  try simp only [Act.put, List.getElem_toArray, List.getElem_cons_zero, List.getElem_cons_succ, List.setIfInBounds_toArray, List.set_cons_zero, List.set_cons_succ]
  refine wpQuiet_if (p := true) (v := .pointer (some ⟨w5.heap.size, 4, none⟩)) rfl (fun _ w' hc => quiet_value (by go_simp)) ?_
  try simp only [Act.put, List.getElem_toArray, List.getElem_cons_zero, List.getElem_cons_succ, List.setIfInBounds_toArray, List.set_cons_zero, List.set_cons_succ]
  refine wpQuiet_if (p := true) (v := .slice aa m cc) rfl (fun _ w' hc => quiet_value (run_cell rfl rfl (A6.out.go hc) Tryz.underlying39 rfl rfl)) ?_
  try simp only [Act.put, List.getElem_toArray, List.getElem_cons_zero, List.getElem_cons_succ, List.setIfInBounds_toArray, List.set_cons_zero, List.set_cons_succ]
  refine wpQuiet_if (p := true) (v := .int .i64 (m : Int)) rfl (fun _ w' hc => quiet_value (lenle rfl rfl)) ?_
  try simp only [Act.put, List.getElem_toArray, List.getElem_cons_zero, List.getElem_cons_succ, List.setIfInBounds_toArray, List.set_cons_zero, List.set_cons_succ]
  refine wpQuiet_if (p := true) (v := .int .i64 n) rfl (fun _ w' hc => quiet_value (run_mv rfl rfl)) ?_
  try simp only [Act.put, List.getElem_toArray, List.getElem_cons_zero, List.getElem_cons_succ, List.setIfInBounds_toArray, List.set_cons_zero, List.set_cons_succ]
  refine wpQuiet_if (p := true) (v := .int .i64 (n / 16)) rfl (fun _ w' hc => quiet_value (by go_simp)) ?_
  try simp only [Act.put, List.getElem_toArray, List.getElem_cons_zero, List.getElem_cons_succ, List.setIfInBounds_toArray, List.set_cons_zero, List.set_cons_succ]
  refine wpQuiet_if (p := true) (v := .int .i64 c) rfl (fun _ w' hc => quiet_value (by go_simp)) ?_
  try simp only [Act.put, List.getElem_toArray, List.getElem_cons_zero, List.getElem_cons_succ, List.setIfInBounds_toArray, List.set_cons_zero, List.set_cons_succ]
  refine wpQuiet_if (p := true) (v := .slice ab (t.L).length cb) rfl (fun _ w' hc => quiet_value (run_mv rfl rfl)) ?_
  try simp only [Act.put, List.getElem_toArray, List.getElem_cons_zero, List.getElem_cons_succ, List.setIfInBounds_toArray, List.set_cons_zero, List.set_cons_succ]
  refine wpQuiet_if (p := true) (v := .int .i64 ((t.L).length : Int)) rfl (fun _ w' hc => quiet_value (lenle rfl rfl)) ?_
  try simp only [Act.put, List.getElem_toArray, List.getElem_cons_zero, List.getElem_cons_succ, List.setIfInBounds_toArray, List.set_cons_zero, List.set_cons_succ]
  refine wpQuiet_if (p := true) (v := .int .i64 (m : Int)) rfl (fun _ w' hc => quiet_value (by have hM := HM.out; go_simp)) ?_
  try simp only [Act.put, List.getElem_toArray, List.getElem_cons_zero, List.getElem_cons_succ, List.setIfInBounds_toArray, List.set_cons_zero, List.set_cons_succ]
  refine wpQuiet_if (p := true) (v := .bool false) rfl (fun _ w' hc => quiet_value (by go_simp)) ?_
  try simp only [Act.put, List.getElem_toArray, List.getElem_cons_zero, List.getElem_cons_succ, List.setIfInBounds_toArray, List.set_cons_zero, List.set_cons_succ]
  refine wpQuiet_do (v := .bool false) rfl (fun w' hc => quiet_value (run_pkF rfl rfl rfl)) ?_
  try simp only [Act.put, List.getElem_toArray, List.getElem_cons_zero, List.getElem_cons_succ, List.setIfInBounds_toArray, List.set_cons_zero, List.set_cons_succ]
  refine wpQuiet_do (v := .bool false) rfl (fun w' hc => quiet_value (run_mv rfl rfl)) ?_
  try simp only [Act.put, List.getElem_toArray, List.getElem_cons_zero, List.getElem_cons_succ, List.setIfInBounds_toArray, List.set_cons_zero, List.set_cons_succ]
  refine wpQuiet_if (p := true) (v := .pointer (some ⟨w5.heap.size, 4, none⟩)) rfl (fun _ w' hc => quiet_value (by go_simp)) ?_
  try simp only [Act.put, List.getElem_toArray, List.getElem_cons_zero, List.getElem_cons_succ, List.setIfInBounds_toArray, List.set_cons_zero, List.set_cons_succ]
  refine wpQuiet_if (p := true) (v := .slice aa m cc) rfl (fun _ w' hc => quiet_value (run_cell rfl rfl (A6.out.go hc) Tryz.underlying39 rfl rfl)) ?_
  try simp only [Act.put, List.getElem_toArray, List.getElem_cons_zero, List.getElem_cons_succ, List.setIfInBounds_toArray, List.set_cons_zero, List.set_cons_succ]
  refine wpQuiet_if (p := true) (v := .slice ab (t.L).length cb) rfl (fun _ w' hc => quiet_value (run_mv rfl rfl)) ?_
  try simp only [Act.put, List.getElem_toArray, List.getElem_cons_zero, List.getElem_cons_succ, List.setIfInBounds_toArray, List.set_cons_zero, List.set_cons_succ]
  refine wpQuiet_if (p := true) (v := .pointer (some ⟨w5.heap.size, 4, none⟩)) rfl (fun _ w' hc => quiet_value (by go_simp)) ?_
  try simp only [Act.put, List.getElem_toArray, List.getElem_cons_zero, List.getElem_cons_succ, List.setIfInBounds_toArray, List.set_cons_zero, List.set_cons_succ]
  refine wpQuiet_if (p := true) (v := .slice aa m cc) rfl (fun _ w' hc => quiet_value (run_cell rfl rfl (A6.out.go hc) Tryz.underlying39 rfl rfl)) ?_
  try simp only [Act.put, List.getElem_toArray, List.getElem_cons_zero, List.getElem_cons_succ, List.setIfInBounds_toArray, List.set_cons_zero, List.set_cons_succ]
  refine wpQuiet_if (p := true) (v := .int .i64 (m : Int)) rfl (fun _ w' hc => quiet_value (lenle rfl rfl)) ?_
  try simp only [Act.put, List.getElem_toArray, List.getElem_cons_zero, List.getElem_cons_succ, List.setIfInBounds_toArray, List.set_cons_zero, List.set_cons_succ]
  refine wpQuiet_if (p := true) (v := .slice ab m cb) rfl (fun _ w' hc => quiet_value (by go_simp)) ?_
  try simp only [Act.put, List.getElem_toArray, List.getElem_cons_zero, List.getElem_cons_succ, List.setIfInBounds_toArray, List.set_cons_zero, List.set_cons_succ]
  refine wpQuiet_if (p := true) (v := .bool true) rfl (fun _ w' hc => quiet_enter (run_call2 (Go.Proofs.enters_of Tryz.func20 (by kernel_rfl) rfl) rfl rfl rfl) ((HSE.out w' hc).mono (fun e w'' h => ⟨h.1, bgo hc h.2⟩))) ?_
  try simp only [Act.put, List.getElem_toArray, List.getElem_cons_zero, List.getElem_cons_succ, List.setIfInBounds_toArray, List.set_cons_zero, List.set_cons_succ]
  refine wpQuiet_if (p := true) (v := .bool (!true)) rfl (fun _ w' hc => quiet_value (not_b rfl rfl)) ?_
  try simp only [Act.put, List.getElem_toArray, List.getElem_cons_zero, List.getElem_cons_succ, List.setIfInBounds_toArray, List.set_cons_zero, List.set_cons_succ]
  refine wpQuiet_do (v := .bool (!true)) rfl (fun w' hc => quiet_value (run_pkF rfl rfl rfl)) ?_
  try simp only [Act.put, List.getElem_toArray, List.getElem_cons_zero, List.getElem_cons_succ, List.setIfInBounds_toArray, List.set_cons_zero, List.set_cons_succ]
  refine wpQuiet_nil ?_
  intro w7 hw7
  have B7 := Lib.hid (bgo B6.out hw7)
  have P7 := Lib.hid (P6.out.below hw7)
  refine hKK _ _ ?_
  clear hKK hw7 A6 B6 O6 P6 HSE HM hmc hml
  try simp only [Act.put, List.getElem_toArray, List.getElem_cons_zero, List.getElem_cons_succ, List.setIfInBounds_toArray, List.set_cons_zero, List.set_cons_succ]
  go_wp2
  have HF : Hid (RdE t.L (.slice ab (t.L).length cb) w7 ∧ Below W.heap.size W w7) := Lib.hid ⟨P7.out, B7.out⟩
  go_loopw [11] (fun i wr => ∃ j : Nat, i = .int .i64 ((j : Int) + 1) ∧ (j + 1 ≤ (t.L).length ∨ j = 0) ∧ Hid (RdE t.L (.slice ab (t.L).length cb) wr ∧ Below W.heap.size W wr)) (fun i _ => (t.L).length - (intOf i).toNat)
  case atStart => exact ⟨0, rfl, Or.inr rfl, HF⟩
  case round =>
    clear HF P7 B7
    obtain ⟨j, rfl, hj, HF⟩ := hrel
    obtain ⟨hr, hb⟩ := HF.out
    by_cases hlt : j + 1 < (t.L).length
    · have hlt2 : (j : Int) + 1 < ((t.L).length : Int) := by omega
      have hj32 : (j : Int) < 32 := by have := HLen.out; omega
      have hjw : IntKind.i64.wrap (j : Int) = (j : Int) := by unfold IntKind.wrap; simp [IntKind.signed, IntKind.bits]; omega
      have hjn2 : ¬ (t.L).length ≤ j := by omega
      have hj0 : ¬ (j : Int) + 1 < 0 := by omega
      have hjn3 : ¬ ((t.L).length : Int) ≤ (j : Int) + 1 := by omega
      have hr0 := hr
      obtain ⟨_, a9, c9, he9, _, _, hc9⟩ := hr0
      simp only [Value.slice.injEq, true_and] at he9
      obtain ⟨rfl, rfl⟩ := he9
      obtain ⟨b9, off9, rfl, hb9, hcell9⟩ := hc9 (by omega)
      have HX := Lib.hid (fun (w' : World) (hb' : Below wr.heap.size wr w') => And.intro ((hcell9 j (by omega)).below hb' hb9) ((hcell9 (j + 1) hlt).below hb' hb9))
      have HBe := Lib.hid (fun w' => before_any ((t.L).getD j Ent.z) ((t.L).getD (j + 1) Ent.z) w')
      rw [srt_next HSrt.out hlt] at HBe
      have HR := Lib.hid hr
      have HB := Lib.hid hb
      clear hr hb hcell9 hc9 hb9 HF hj
      generalize (t.L).getD j Ent.z = X at HX HBe
      generalize (t.L).getD (j + 1) Ent.z = Y at HX HBe
      go_upto_region 10 with (fail)
      rename_i K2 hK2
      refine wp_region_quiet (C := fun w' => Below wr.heap.size wr w') (by kernel_rfl) (by kernel_rfl) ⟨rfl, rfl, rfl, Nat.le_refl _, fun _ _ => rfl⟩ ?_
      refine wpQuiet_do (v := .slice (some ⟨b9, off9, none⟩) (t.L).length cb) rfl (fun w' hc => quiet_value (run_mv rfl rfl)) ?_
      try simp only [Act.put, List.getElem_toArray, List.getElem_cons_zero, List.getElem_cons_succ, List.setIfInBounds_toArray, List.set_cons_zero, List.set_cons_succ]
      refine wpQuiet_do (v := .int .i64 ((j : Int) + 1)) rfl (fun w' hc => quiet_value (run_mv rfl rfl)) ?_
      try simp only [Act.put, List.getElem_toArray, List.getElem_cons_zero, List.getElem_cons_succ, List.setIfInBounds_toArray, List.set_cons_zero, List.set_cons_succ]
      refine wpQuiet_do (v := .int .i64 (j : Int)) rfl (fun w' hc => quiet_value (by go_simp)) ?_
      try simp only [Act.put, List.getElem_toArray, List.getElem_cons_zero, List.getElem_cons_succ, List.setIfInBounds_toArray, List.set_cons_zero, List.set_cons_succ]
      refine wpQuiet_do (v := .pointer (some ⟨b9, off9 + j * 3, none⟩)) rfl (fun w' hc => quiet_value (by go_simp)) ?_
      try simp only [Act.put, List.getElem_toArray, List.getElem_cons_zero, List.getElem_cons_succ, List.setIfInBounds_toArray, List.set_cons_zero, List.set_cons_succ]
      refine wpQuiet_do (v := .agg #[.string X.k, .int .i64 X.c, .int .i64 X.e]) rfl (fun w' hc => quiet_value (by obtain ⟨⟨p0, p1, p2⟩, q0, q1, q2⟩ := HX.out w' hc; clear HX; go_simp)) ?_
      try simp only [Act.put, List.getElem_toArray, List.getElem_cons_zero, List.getElem_cons_succ, List.setIfInBounds_toArray, List.set_cons_zero, List.set_cons_succ]
      refine wpQuiet_do (v := .slice (some ⟨b9, off9, none⟩) (t.L).length cb) rfl (fun w' hc => quiet_value (run_mv rfl rfl)) ?_
      try simp only [Act.put, List.getElem_toArray, List.getElem_cons_zero, List.getElem_cons_succ, List.setIfInBounds_toArray, List.set_cons_zero, List.set_cons_succ]
      refine wpQuiet_do (v := .int .i64 ((j : Int) + 1)) rfl (fun w' hc => quiet_value (run_mv rfl rfl)) ?_
      try simp only [Act.put, List.getElem_toArray, List.getElem_cons_zero, List.getElem_cons_succ, List.setIfInBounds_toArray, List.set_cons_zero, List.set_cons_succ]
      refine wpQuiet_do (v := .pointer (some ⟨b9, off9 + (j + 1) * 3, none⟩)) rfl (fun w' hc => quiet_value (by go_simp)) ?_
      try simp only [Act.put, List.getElem_toArray, List.getElem_cons_zero, List.getElem_cons_succ, List.setIfInBounds_toArray, List.set_cons_zero, List.set_cons_succ]
      refine wpQuiet_do (v := .agg #[.string Y.k, .int .i64 Y.c, .int .i64 Y.e]) rfl (fun w' hc => quiet_value (by obtain ⟨⟨p0, p1, p2⟩, q0, q1, q2⟩ := HX.out w' hc; clear HX; go_simp)) ?_
      try simp only [Act.put, List.getElem_toArray, List.getElem_cons_zero, List.getElem_cons_succ, List.setIfInBounds_toArray, List.set_cons_zero, List.set_cons_succ]
      refine wpQuiet_do (v := .bool true) rfl (fun w' hc => quiet_enter (run_call2 (Go.Proofs.enters_of Tryz.func22 (by kernel_rfl) rfl) rfl rfl rfl) ((HBe.out w').mono (fun e w'' h => ⟨h.1, bgo hc h.2⟩))) ?_
      try simp only [Act.put, List.getElem_toArray, List.getElem_cons_zero, List.getElem_cons_succ, List.setIfInBounds_toArray, List.set_cons_zero, List.set_cons_succ]
      refine wpQuiet_do (v := .bool (!true)) rfl (fun w' hc => quiet_value (not_b rfl rfl)) ?_
      try simp only [Act.put, List.getElem_toArray, List.getElem_cons_zero, List.getElem_cons_succ, List.setIfInBounds_toArray, List.set_cons_zero, List.set_cons_succ]
      refine wpQuiet_nil ?_
      intro w8 hw8
      have HF8 : Hid (RdE t.L (.slice (some ⟨b9, off9, none⟩) (t.L).length cb) w8 ∧ Below W.heap.size W w8) := Lib.hid ⟨HR.out.below hw8, bgo HB.out hw8⟩
      refine hK2 _ _ ?_
      clear hK2 hw8 HX HBe HR HB
      try simp only [Act.put, List.getElem_toArray, List.getElem_cons_zero, List.getElem_cons_succ, List.setIfInBounds_toArray, List.set_cons_zero, List.set_cons_succ]
      go_wp2
      go_roundw
      case rel => exact ⟨j + 1, by go_num, Or.inl hlt, HF8⟩
      case measure => simp [intOf]; omega
    · have HB := Lib.hid hb
      have hlt2 : ¬ (j : Int) + 1 < ((t.L).length : Int) := by omega
      clear hr hb HF hj
      go_wp2_with (go_at_call 9; (with_reducible refine (H9.out _ (T0.out.go HB.out)).mono ?_); rintro e w9 ⟨rfl, hb9⟩; have B9 := Lib.hid (bgo HB.out hb9); clear hb9)
      go_ret
      exact ⟨rfl, B9.out⟩
set_option maxRecDepth 100000 in
set_option maxHeartbeats 4000000 in
theorem pages_frq (L : List Int) (v : Value) (n : Int) (W : World) (hv : RdI L v W) (hn : n % 2 = 1) (ht : SupT W) :
    Calls Tryz.prog 6 #[v, .int .i64 n] W fun e w' => e = .returned (.bool true) ∧ Below W.heap.size W w' := by
  have m1 := maskq1 n
  rw [hn] at m1
  have m2 := maskq3 (n / 2)
  have m3 := maskq4 (n / 16)
  have e2 : 0 ≤ n / 2 % 8 ∧ n / 2 % 8 ≤ 7 := by omega
  have e3 : 0 ≤ n / 16 % 16 ∧ n / 16 % 16 ≤ 15 := by omega
  clear hn
  generalize n / 2 % 8 = p at *
  generalize n / 16 % 16 = c at *
  have HSk := Lib.hid (fun (w' : World) (hb : Below W.heap.size W w') => skof_frq (1 + p) L v w' (by omega) (by omega) (hv.below hb))
  have H9 := Lib.hid (fun (w : World) (h : SupT w) => known13_any w h)
  have T0 := Lib.hid ht
  have E3 := Lib.hid e3
  have E2 := Lib.hid e2
  obtain ⟨a0, cap0, rfl⟩ := hv.shape
  clear hv ht e3
  go_enter Tryz.func6, Tryz.ntmps6
  go_upto_region 5 with (first
    | (refine stPm (A' := #[.int .i64 5, .int .i64 (1 + p), .int .i64 0, .int .u64 0]) rfl rfl rfl (RowAt.new W _ _) rfl rfl (all_one rfl) (show 0 + 4 ≤ 4 by decide) (by kernel_rfl) ?_; intro w1 r1 o1; have P1 := Lib.hid r1; have B1 := Lib.hid (Below.trans (b1 _) (o1.1 : Below W.heap.size _ w1)); clear r1 o1)
    | (refine ldPm (B := #[.int .i64 5, .int .i64 (1 + p), .int .i64 0, .int .u64 0]) rfl rfl rfl P1.out rfl (by kernel_rfl) ?_)
    | (go_at_call 21; (with_reducible refine (HSk.out _ B1.out).mono ?_); rintro e w2 ⟨u, s, rfl, hst, ⟨f, hh, WW, rfl, hs⟩, hb2⟩; have B2 := Lib.hid (bgo B1.out hb2); have S2 := Lib.hid (hst _ (Abv.refl _ _)); have M2 := Lib.hid hs; obtain ⟨a1, c1, a2, c2, a3, c3, a4, c4, a5, c5, rfl, hrr⟩ := S2.out.run; have RR2 := Lib.hid hrr; clear hst hb2 hrr hs)
    | (refine stWh (B := #[.int .i64 5, .int .i64 f.S, .int .i64 0, .int .u64 0, .int .i64 0, .int .i64 0, .bool false, .int .i64 0, .int .i64 0, .int .u64 0, .slice a1 0 c1, .bool false, .int .i64 0, .int .u64 0, .slice a2 0 c2, .int .i64 0, .int .i64 0, .slice a3 0 c3, .bool false, .int .i64 f.S, .int .i64 f.T, .int .i64 f.K, .slice a4 f.L.length c4, .bool f.s, .int .i64 0, .int .i64 0, .int .i64 0, .slice a5 0 c5, .bool false]) rfl rfl rfl (RowAt.new w2 _ _) rfl rfl rfl rfl ?_; intro w3 r3 o3; have D3 := Lib.hid (Below.trans (b1 _) (o3.1 : Below w2.heap.size _ w3)); have R3 := Lib.hid r3; have RR3 := Lib.hid (RR2.out.below D3.out); have B3 := Lib.hid (bgo B2.out D3.out); have T3 := Lib.hid (T0.out.go B3.out); have HEn : Hid (Calls Tryz.prog 18 #[.agg #[.int .i64 5, .int .i64 f.S, .int .i64 0, .int .u64 0, .int .i64 0, .int .i64 0, .bool false, .int .i64 0, .int .i64 0, .int .u64 0, .slice a1 0 c1, .bool false, .int .i64 0, .int .u64 0, .slice a2 0 c2, .int .i64 0, .int .i64 0, .slice a3 0 c3, .bool false, .int .i64 f.S, .int .i64 f.T, .int .i64 f.K, .slice a4 f.L.length c4, .bool f.s, .int .i64 0, .int .i64 0, .int .i64 0, .slice a5 0 c5, .bool false]] w3 fun e w' => ∃ v, e = .returned (.tuple #[v, .int .i64 0]) ∧ RdE (sortE (f.L.map (setE f.K))) v w' ∧ Below w3.heap.size w3 w') := Lib.hid (by have hs := M2.out; exact en_frq f a1 c1 a2 c2 a3 c3 a4 c4 a5 c5 w3 (by have := hs.val.len; have := hs.hS; omega) (by have := hs.val.k0; have := hs.val.k1; omega) RR3.out (wf_fmQ (by have := hs.val.s0; have := hs.val.s1; unfold I64; omega) (by have := hs.val.small; omega)) (val_fm5 hs.val.s0 hs.val.s1 (valQ_of hs.val)) T3.out); clear r3 o3 D3 B2 S2 RR2)
    | (refine ldSk (B := #[.int .i64 5, .int .i64 f.S, .int .i64 0, .int .u64 0, .int .i64 0, .int .i64 0, .bool false, .int .i64 0, .int .i64 0, .int .u64 0, .slice a1 0 c1, .bool false, .int .i64 0, .int .u64 0, .slice a2 0 c2, .int .i64 0, .int .i64 0, .slice a3 0 c3, .bool false, .int .i64 f.S, .int .i64 f.T, .int .i64 f.K, .slice a4 f.L.length c4, .bool f.s, .int .i64 0, .int .i64 0, .int .i64 0, .slice a5 0 c5, .bool false]) rfl rfl rfl R3.out rfl (by kernel_rfl) ?_)
    | (go_at_call 18; (with_reducible refine HEn.out.mono ?_); rintro e w4 ⟨vl, rfl, ho4, hb4⟩; obtain ⟨ab, cb, rfl⟩ := ho4.shape; have R4 := Lib.hid (R3.out.go hb4); have RR4 := Lib.hid (RR3.out.below hb4); have B4 := Lib.hid (bgo B3.out hb4); have O4 := Lib.hid ho4; obtain ⟨m, hm⟩ : ∃ m : Nat, min c (((sortE (f.L.map (setE f.K)))).length : Int) = (m : Int) := ⟨(min c (((sortE (f.L.map (setE f.K)))).length : Int)).toNat, by have := E3.out; omega⟩; have HM := Lib.hid hm; have HAs : Hid (Calls Tryz.prog 15 #[.agg #[.int .i64 5, .int .i64 f.S, .int .i64 0, .int .u64 0, .int .i64 0, .int .i64 0, .bool false, .int .i64 0, .int .i64 0, .int .u64 0, .slice a1 0 c1, .bool false, .int .i64 0, .int .u64 0, .slice a2 0 c2, .int .i64 0, .int .i64 0, .slice a3 0 c3, .bool false, .int .i64 f.S, .int .i64 f.T, .int .i64 f.K, .slice a4 f.L.length c4, .bool f.s, .int .i64 0, .int .i64 0, .int .i64 0, .slice a5 0 c5, .bool false], .agg #[.int .i64 5, .string ⟨#[]⟩, .int .i64 c, .int .i64 0, .int .i64 0]] w4 fun e w' => ∃ aa cc, e = .returned (.tuple #[.agg #[.int .i64 0, .int .i64 0, .string ⟨#[]⟩, .slice none 0 0, .slice aa m cc, .bool f.s], .int .i64 0]) ∧ RdE ((sortE (f.L.map (setE f.K))).take m) (.slice aa m cc) w' ∧ Below w4.heap.size w4 w') := Lib.hid (by have hs := M2.out; exact as_frq f a1 c1 a2 c2 a3 c3 a4 c4 a5 c5 c m w4 (by have := hs.val.len; have := hs.hS; omega) (by have := hs.val.k0; have := hs.val.k1; omega) RR4.out (wf_fmQ (by have := hs.val.s0; have := hs.val.s1; unfold I64; omega) (by have := hs.val.small; omega)) (val_fm5 hs.val.s0 hs.val.s1 (valQ_of hs.val)) (by have := E3.out; omega) (by have := E3.out; omega) hm (T0.out.go B4.out)); clear hm ho4 hb4 R3 RR3 B3 T3 HEn)
    | (refine ldSk (B := #[.int .i64 5, .int .i64 f.S, .int .i64 0, .int .u64 0, .int .i64 0, .int .i64 0, .bool false, .int .i64 0, .int .i64 0, .int .u64 0, .slice a1 0 c1, .bool false, .int .i64 0, .int .u64 0, .slice a2 0 c2, .int .i64 0, .int .i64 0, .slice a3 0 c3, .bool false, .int .i64 f.S, .int .i64 f.T, .int .i64 f.K, .slice a4 f.L.length c4, .bool f.s, .int .i64 0, .int .i64 0, .int .i64 0, .slice a5 0 c5, .bool false]) rfl rfl rfl R4.out rfl (by kernel_rfl) ?_)
    | (go_at_call 15; (with_reducible refine HAs.out.mono ?_); rintro e w5 ⟨aa, cc, rfl, ho5, hb5⟩; have B5 := Lib.hid (bgo B4.out hb5); have O5 := Lib.hid ho5; have P5 := Lib.hid (O4.out.below hb5); clear ho5 hb5 R4 RR4 B4 O4 HAs)
    | (refine stAn (B := #[.int .i64 0, .int .i64 0, .string ⟨#[]⟩, .slice none 0 0, .slice aa m cc, .bool f.s]) rfl rfl rfl (RowAt.new w5 _ _) rfl rfl rfl rfl ?_; intro w6 r6 o6; have D6 := Lib.hid (Below.trans (b1 _) (o6.1 : Below w5.heap.size _ w6)); have A6 := Lib.hid r6; have B6 := Lib.hid (bgo B5.out D6.out); have O6 := Lib.hid (O5.out.below D6.out); have P6 := Lib.hid (P5.out.below D6.out); clear r6 o6 D6 B5 O5 P5))
  rename_i KK hKK
  have hml : m ≤ ((sortE (f.L.map (setE f.K)))).length := by have := HM.out; omega
  have hcb : ((sortE (f.L.map (setE f.K)))).length ≤ cb := by
    obtain ⟨_, a9, c9, he9, h9, _⟩ := P6.out
    simp only [Value.slice.injEq, true_and] at he9
    obtain ⟨rfl, rfl⟩ := he9
    exact h9
  have hmc : (m : Int) ≤ (cb : Int) := by omega
  have HSrt : Hid (Sorted (sortE (f.L.map (setE f.K)))) := Lib.hid (by have hs := M2.out; exact sortE_sorted (keyed_set hs.val f.K))
  have HLen : Hid (((sortE (f.L.map (setE f.K)))).length ≤ 32) := Lib.hid (by have hs := M2.out; rw [sortE_len, List.length_map]; exact hs.val.small)
  have HSE := Lib.hid (fun (w' : World) (hb : Below w6.heap.size w6 w') => sameE_any (((sortE (f.L.map (setE f.K)))).take m) (.slice aa m cc) (.slice ab m cb) w' (O6.out.below hb) ((P6.out.cutTo m hml).below hb) (by have := HLen.out; simp; omega))
  refine wp_region_quiet (C := fun w' => Below w6.heap.size w6 w') (by kernel_rfl) (by kernel_rfl) ⟨rfl, rfl, rfl, Nat.le_refl _, fun _ _ => rfl⟩ ?_
  refine wpQuiet_do (v := .int .i64 0) rfl (fun w' hc => quiet_value (run_mv rfl rfl)) ?_
  try simp only [Act.put, List.getElem_toArray, List.getElem_cons_zero, List.getElem_cons_succ, List.setIfInBounds_toArray, List.set_cons_zero, List.set_cons_succ]
  refine wpQuiet_do (v := .bool false) rfl (fun w' hc => quiet_value (neEr0 rfl rfl)) ?_
  try simp only [Act.put, List.getElem_toArray, List.getElem_cons_zero, List.getElem_cons_succ, List.setIfInBounds_toArray, List.set_cons_zero, List.set_cons_succ]
  refine wpQuiet_do (v := .bool false) rfl (fun w' hc => quiet_value (run_mv rfl rfl)) ?_
  try simp only [Act.put, List.getElem_toArray, List.getElem_cons_zero, List.getElem_cons_succ, List.setIfInBounds_toArray, List.set_cons_zero, List.set_cons_succ]
  refine wpQuiet_if (p := true) (v := .int .i64 0) rfl (fun _ w' hc => quiet_value (run_mv rfl rfl)) ?_
  try simp only [Act.put, List.getElem_toArray, List.getElem_cons_zero, List.getElem_cons_succ, List.setIfInBounds_toArray, List.set_cons_zero, List.set_cons_succ]
  refine wpQuiet_if (p := true) (v := .bool false) rfl (fun _ w' hc => quiet_value (neEr0 rfl rfl)) ?_
  try simp only [Act.put, List.getElem_toArray, List.getElem_cons_zero, List.getElem_cons_succ, List.setIfInBounds_toArray, List.set_cons_zero, List.set_cons_succ]
  refine wpQuiet_do (v := .bool false) rfl (fun w' hc => quiet_value (run_pkF rfl rfl rfl)) ?_
  try simp only [Act.put, List.getElem_toArray, List.getElem_cons_zero, List.getElem_cons_succ, List.setIfInBounds_toArray, List.set_cons_zero, List.set_cons_succ]
  refine wpQuiet_do (v := .bool false) rfl (fun w' hc => quiet_value (run_mv rfl rfl)) ?_
  try simp only [Act.put, List.getElem_toArray, List.getElem_cons_zero, List.getElem_cons_succ, List.setIfInBounds_toArray, List.set_cons_zero, List.set_cons_succ]
  refine wpQuiet_if (p := true) (v := .pointer (some ⟨w5.heap.size, 4, none⟩)) rfl (fun _ w' hc => quiet_value (by go_simp)) ?_
  try simp only [Act.put, List.getElem_toArray, List.getElem_cons_zero, List.getElem_cons_succ, List.setIfInBounds_toArray, List.set_cons_zero, List.set_cons_succ]
  refine wpQuiet_if (p := true) (v := .slice aa m cc) rfl (fun _ w' hc => quiet_value (run_cell rfl rfl (A6.out.go hc) Tryz.underlying39 rfl rfl)) ?_
  try simp only [Act.put, List.getElem_toArray, List.getElem_cons_zero, List.getElem_cons_succ, List.setIfInBounds_toArray, List.set_cons_zero, List.set_cons_succ]
  refine wpQuiet_if (p := true) (v := .int .i64 (m : Int)) rfl (fun _ w' hc => quiet_value (lenle rfl rfl)) ?_
  try simp only [Act.put, List.getElem_toArray, List.getElem_cons_zero, List.getElem_cons_succ, List.setIfInBounds_toArray, List.set_cons_zero, List.set_cons_succ]
  refine wpQuiet_if (p := true) (v := .int .i64 n) rfl (fun _ w' hc => quiet_value (run_mv rfl rfl)) ?_
  try simp only [Act.put, List.getElem_toArray, List.getElem_cons_zero, List.getElem_cons_succ, List.setIfInBounds_toArray, List.set_cons_zero, List.set_cons_succ]
  refine wpQuiet_if (p := true) (v := .int .i64 (n / 16)) rfl (fun _ w' hc => quiet_value (by go_simp)) ?_
  try simp only [Act.put, List.getElem_toArray, List.getElem_cons_zero, List.getElem_cons_succ, List.setIfInBounds_toArray, List.set_cons_zero, List.set_cons_succ]
  refine wpQuiet_if (p := true) (v := .int .i64 c) rfl (fun _ w' hc => quiet_value (by go_simp)) ?_
  try simp only [Act.put, List.getElem_toArray, List.getElem_cons_zero, List.getElem_cons_succ, List.setIfInBounds_toArray, List.set_cons_zero, List.set_cons_succ]
  refine wpQuiet_if (p := true) (v := .slice ab ((sortE (f.L.map (setE f.K)))).length cb) rfl (fun _ w' hc => quiet_value (run_mv rfl rfl)) ?_
  try simp only [Act.put, List.getElem_toArray, List.getElem_cons_zero, List.getElem_cons_succ, List.setIfInBounds_toArray, List.set_cons_zero, List.set_cons_succ]
  refine wpQuiet_if (p := true) (v := .int .i64 (((sortE (f.L.map (setE f.K)))).length : Int)) rfl (fun _ w' hc => quiet_value (lenle rfl rfl)) ?_
  try simp only [Act.put, List.getElem_toArray, List.getElem_cons_zero, List.getElem_cons_succ, List.setIfInBounds_toArray, List.set_cons_zero, List.set_cons_succ]
  refine wpQuiet_if (p := true) (v := .int .i64 (m : Int)) rfl (fun _ w' hc => quiet_value (by have hM := HM.out; go_simp)) ?_
  try simp only [Act.put, List.getElem_toArray, List.getElem_cons_zero, List.getElem_cons_succ, List.setIfInBounds_toArray, List.set_cons_zero, List.set_cons_succ]
  refine wpQuiet_if (p := true) (v := .bool false) rfl (fun _ w' hc => quiet_value (by go_simp)) ?_
  try simp only [Act.put, List.getElem_toArray, List.getElem_cons_zero, List.getElem_cons_succ, List.setIfInBounds_toArray, List.set_cons_zero, List.set_cons_succ]
  refine wpQuiet_do (v := .bool false) rfl (fun w' hc => quiet_value (run_pkF rfl rfl rfl)) ?_
  try simp only [Act.put, List.getElem_toArray, List.getElem_cons_zero, List.getElem_cons_succ, List.setIfInBounds_toArray, List.set_cons_zero, List.set_cons_succ]
  refine wpQuiet_do (v := .bool false) rfl (fun w' hc => quiet_value (run_mv rfl rfl)) ?_
  try simp only [Act.put, List.getElem_toArray, List.getElem_cons_zero, List.getElem_cons_succ, List.setIfInBounds_toArray, List.set_cons_zero, List.set_cons_succ]
  refine wpQuiet_if (p := true) (v := .pointer (some ⟨w5.heap.size, 4, none⟩)) rfl (fun _ w' hc => quiet_value (by go_simp)) ?_
  try simp only [Act.put, List.getElem_toArray, List.getElem_cons_zero, List.getElem_cons_succ, List.setIfInBounds_toArray, List.set_cons_zero, List.set_cons_succ]
  refine wpQuiet_if (p := true) (v := .slice aa m cc) rfl (fun _ w' hc => quiet_value (run_cell rfl rfl (A6.out.go hc) Tryz.underlying39 rfl rfl)) ?_
  try simp only [Act.put, List.getElem_toArray, List.getElem_cons_zero, List.getElem_cons_succ, List.setIfInBounds_toArray, List.set_cons_zero, List.set_cons_succ]
  refine wpQuiet_if (p := true) (v := .slice ab ((sortE (f.L.map (setE f.K)))).length cb) rfl (fun _ w' hc => quiet_value (run_mv rfl rfl)) ?_
  try simp only [Act.put, List.getElem_toArray, List.getElem_cons_zero, List.getElem_cons_succ, List.setIfInBounds_toArray, List.set_cons_zero, List.set_cons_succ]
  refine wpQuiet_if (p := true) (v := .pointer (some ⟨w5.heap.size, 4, none⟩)) rfl (fun _ w' hc => quiet_value (by go_simp)) ?_
  try simp only [Act.put, List.getElem_toArray, List.getElem_cons_zero, List.getElem_cons_succ, List.setIfInBounds_toArray, List.set_cons_zero, List.set_cons_succ]
  refine wpQuiet_if (p := true) (v := .slice aa m cc) rfl (fun _ w' hc => quiet_value (run_cell rfl rfl (A6.out.go hc) Tryz.underlying39 rfl rfl)) ?_
  try simp only [Act.put, List.getElem_toArray, List.getElem_cons_zero, List.getElem_cons_succ, List.setIfInBounds_toArray, List.set_cons_zero, List.set_cons_succ]
  refine wpQuiet_if (p := true) (v := .int .i64 (m : Int)) rfl (fun _ w' hc => quiet_value (lenle rfl rfl)) ?_
  try simp only [Act.put, List.getElem_toArray, List.getElem_cons_zero, List.getElem_cons_succ, List.setIfInBounds_toArray, List.set_cons_zero, List.set_cons_succ]
  refine wpQuiet_if (p := true) (v := .slice ab m cb) rfl (fun _ w' hc => quiet_value (by go_simp)) ?_
  try simp only [Act.put, List.getElem_toArray, List.getElem_cons_zero, List.getElem_cons_succ, List.setIfInBounds_toArray, List.set_cons_zero, List.set_cons_succ]
  refine wpQuiet_if (p := true) (v := .bool true) rfl (fun _ w' hc => quiet_enter (run_call2 (Go.Proofs.enters_of Tryz.func20 (by kernel_rfl) rfl) rfl rfl rfl) ((HSE.out w' hc).mono (fun e w'' h => ⟨h.1, bgo hc h.2⟩))) ?_
  try simp only [Act.put, List.getElem_toArray, List.getElem_cons_zero, List.getElem_cons_succ, List.setIfInBounds_toArray, List.set_cons_zero, List.set_cons_succ]
  refine wpQuiet_if (p := true) (v := .bool (!true)) rfl (fun _ w' hc => quiet_value (not_b rfl rfl)) ?_
  try simp only [Act.put, List.getElem_toArray, List.getElem_cons_zero, List.getElem_cons_succ, List.setIfInBounds_toArray, List.set_cons_zero, List.set_cons_succ]
  refine wpQuiet_do (v := .bool (!true)) rfl (fun w' hc => quiet_value (run_pkF rfl rfl rfl)) ?_
  try simp only [Act.put, List.getElem_toArray, List.getElem_cons_zero, List.getElem_cons_succ, List.setIfInBounds_toArray, List.set_cons_zero, List.set_cons_succ]
  refine wpQuiet_nil ?_
  intro w7 hw7
  have B7 := Lib.hid (bgo B6.out hw7)
  have P7 := Lib.hid (P6.out.below hw7)
  refine hKK _ _ ?_
  clear hKK hw7 A6 B6 O6 P6 HSE HM hmc hml
  try simp only [Act.put, List.getElem_toArray, List.getElem_cons_zero, List.getElem_cons_succ, List.setIfInBounds_toArray, List.set_cons_zero, List.set_cons_succ]
  go_wp2
  have HF : Hid (RdE (sortE (f.L.map (setE f.K))) (.slice ab ((sortE (f.L.map (setE f.K)))).length cb) w7 ∧ Below W.heap.size W w7) := Lib.hid ⟨P7.out, B7.out⟩
  go_loopw [11] (fun i wr => ∃ j : Nat, i = .int .i64 ((j : Int) + 1) ∧ (j + 1 ≤ ((sortE (f.L.map (setE f.K)))).length ∨ j = 0) ∧ Hid (RdE (sortE (f.L.map (setE f.K))) (.slice ab ((sortE (f.L.map (setE f.K)))).length cb) wr ∧ Below W.heap.size W wr)) (fun i _ => ((sortE (f.L.map (setE f.K)))).length - (intOf i).toNat)
  case atStart => exact ⟨0, rfl, Or.inr rfl, HF⟩
  case round =>
    clear HF P7 B7
    obtain ⟨j, rfl, hj, HF⟩ := hrel
    obtain ⟨hr, hb⟩ := HF.out
    by_cases hlt : j + 1 < ((sortE (f.L.map (setE f.K)))).length
    · have hlt2 : (j : Int) + 1 < (((sortE (f.L.map (setE f.K)))).length : Int) := by omega
      have hj32 : (j : Int) < 32 := by have := HLen.out; omega
      have hjw : IntKind.i64.wrap (j : Int) = (j : Int) := by unfold IntKind.wrap; simp [IntKind.signed, IntKind.bits]; omega
      have hjn2 : ¬ ((sortE (f.L.map (setE f.K)))).length ≤ j := by omega
      have hj0 : ¬ (j : Int) + 1 < 0 := by omega
      have hjn3 : ¬ (((sortE (f.L.map (setE f.K)))).length : Int) ≤ (j : Int) + 1 := by omega
      have hr0 := hr
      obtain ⟨_, a9, c9, he9, _, _, hc9⟩ := hr0
      simp only [Value.slice.injEq, true_and] at he9
      obtain ⟨rfl, rfl⟩ := he9
      obtain ⟨b9, off9, rfl, hb9, hcell9⟩ := hc9 (by omega)
      have HX := Lib.hid (fun (w' : World) (hb' : Below wr.heap.size wr w') => And.intro ((hcell9 j (by omega)).below hb' hb9) ((hcell9 (j + 1) hlt).below hb' hb9))
      have HBe := Lib.hid (fun w' => before_any (((sortE (f.L.map (setE f.K)))).getD j Ent.z) (((sortE (f.L.map (setE f.K)))).getD (j + 1) Ent.z) w')
      rw [srt_next HSrt.out hlt] at HBe
      have HR := Lib.hid hr
      have HB := Lib.hid hb
      clear hr hb hcell9 hc9 hb9 HF hj
      generalize ((sortE (f.L.map (setE f.K)))).getD j Ent.z = X at HX HBe
      generalize ((sortE (f.L.map (setE f.K)))).getD (j + 1) Ent.z = Y at HX HBe
      go_upto_region 10 with (fail)
      rename_i K2 hK2
      refine wp_region_quiet (C := fun w' => Below wr.heap.size wr w') (by kernel_rfl) (by kernel_rfl) ⟨rfl, rfl, rfl, Nat.le_refl _, fun _ _ => rfl⟩ ?_
      refine wpQuiet_do (v := .slice (some ⟨b9, off9, none⟩) ((sortE (f.L.map (setE f.K)))).length cb) rfl (fun w' hc => quiet_value (run_mv rfl rfl)) ?_
      try simp only [Act.put, List.getElem_toArray, List.getElem_cons_zero, List.getElem_cons_succ, List.setIfInBounds_toArray, List.set_cons_zero, List.set_cons_succ]
      refine wpQuiet_do (v := .int .i64 ((j : Int) + 1)) rfl (fun w' hc => quiet_value (run_mv rfl rfl)) ?_
      try simp only [Act.put, List.getElem_toArray, List.getElem_cons_zero, List.getElem_cons_succ, List.setIfInBounds_toArray, List.set_cons_zero, List.set_cons_succ]
      refine wpQuiet_do (v := .int .i64 (j : Int)) rfl (fun w' hc => quiet_value (by go_simp)) ?_
      try simp only [Act.put, List.getElem_toArray, List.getElem_cons_zero, List.getElem_cons_succ, List.setIfInBounds_toArray, List.set_cons_zero, List.set_cons_succ]
      refine wpQuiet_do (v := .pointer (some ⟨b9, off9 + j * 3, none⟩)) rfl (fun w' hc => quiet_value (by go_simp)) ?_
      try simp only [Act.put, List.getElem_toArray, List.getElem_cons_zero, List.getElem_cons_succ, List.setIfInBounds_toArray, List.set_cons_zero, List.set_cons_succ]
      refine wpQuiet_do (v := .agg #[.string X.k, .int .i64 X.c, .int .i64 X.e]) rfl (fun w' hc => quiet_value (by obtain ⟨⟨p0, p1, p2⟩, q0, q1, q2⟩ := HX.out w' hc; clear HX; go_simp)) ?_
      try simp only [Act.put, List.getElem_toArray, List.getElem_cons_zero, List.getElem_cons_succ, List.setIfInBounds_toArray, List.set_cons_zero, List.set_cons_succ]
      refine wpQuiet_do (v := .slice (some ⟨b9, off9, none⟩) ((sortE (f.L.map (setE f.K)))).length cb) rfl (fun w' hc => quiet_value (run_mv rfl rfl)) ?_
      try simp only [Act.put, List.getElem_toArray, List.getElem_cons_zero, List.getElem_cons_succ, List.setIfInBounds_toArray, List.set_cons_zero, List.set_cons_succ]
      refine wpQuiet_do (v := .int .i64 ((j : Int) + 1)) rfl (fun w' hc => quiet_value (run_mv rfl rfl)) ?_
      try simp only [Act.put, List.getElem_toArray, List.getElem_cons_zero, List.getElem_cons_succ, List.setIfInBounds_toArray, List.set_cons_zero, List.set_cons_succ]
      refine wpQuiet_do (v := .pointer (some ⟨b9, off9 + (j + 1) * 3, none⟩)) rfl (fun w' hc => quiet_value (by go_simp)) ?_
      try simp only [Act.put, List.getElem_toArray, List.getElem_cons_zero, List.getElem_cons_succ, List.setIfInBounds_toArray, List.set_cons_zero, List.set_cons_succ]
      refine wpQuiet_do (v := .agg #[.string Y.k, .int .i64 Y.c, .int .i64 Y.e]) rfl (fun w' hc => quiet_value (by obtain ⟨⟨p0, p1, p2⟩, q0, q1, q2⟩ := HX.out w' hc; clear HX; go_simp)) ?_
      try simp only [Act.put, List.getElem_toArray, List.getElem_cons_zero, List.getElem_cons_succ, List.setIfInBounds_toArray, List.set_cons_zero, List.set_cons_succ]
      refine wpQuiet_do (v := .bool true) rfl (fun w' hc => quiet_enter (run_call2 (Go.Proofs.enters_of Tryz.func22 (by kernel_rfl) rfl) rfl rfl rfl) ((HBe.out w').mono (fun e w'' h => ⟨h.1, bgo hc h.2⟩))) ?_
      try simp only [Act.put, List.getElem_toArray, List.getElem_cons_zero, List.getElem_cons_succ, List.setIfInBounds_toArray, List.set_cons_zero, List.set_cons_succ]
      refine wpQuiet_do (v := .bool (!true)) rfl (fun w' hc => quiet_value (not_b rfl rfl)) ?_
      try simp only [Act.put, List.getElem_toArray, List.getElem_cons_zero, List.getElem_cons_succ, List.setIfInBounds_toArray, List.set_cons_zero, List.set_cons_succ]
      refine wpQuiet_nil ?_
      intro w8 hw8
      have HF8 : Hid (RdE (sortE (f.L.map (setE f.K))) (.slice (some ⟨b9, off9, none⟩) ((sortE (f.L.map (setE f.K)))).length cb) w8 ∧ Below W.heap.size W w8) := Lib.hid ⟨HR.out.below hw8, bgo HB.out hw8⟩
      refine hK2 _ _ ?_
      clear hK2 hw8 HX HBe HR HB
      try simp only [Act.put, List.getElem_toArray, List.getElem_cons_zero, List.getElem_cons_succ, List.setIfInBounds_toArray, List.set_cons_zero, List.set_cons_succ]
      go_wp2
      go_roundw
      case rel => exact ⟨j + 1, by go_num, Or.inl hlt, HF8⟩
      case measure => simp [intOf]; omega
    · have HB := Lib.hid hb
      have hlt2 : ¬ (j : Int) + 1 < (((sortE (f.L.map (setE f.K)))).length : Int) := by omega
      clear hr hb HF hj
      go_wp2_with (go_at_call 9; (with_reducible refine (H9.out _ (T0.out.go HB.out)).mono ?_); rintro e w9 ⟨rfl, hb9⟩; have B9 := Lib.hid (bgo HB.out hb9); clear hb9)
      go_ret
      exact ⟨rfl, B9.out⟩
theorem queryPages_walk (a : Option Addr) (len cap : Nat) (z : List Int) (n : Int) (W : World) (w0 : InRow .i64 W a len cap z) (w1 : (Lit.int .i64 n).wf = true) (ht : SupT W) :
    Calls Tryz.prog 6 #[.slice a len cap, .int .i64 n] W fun e w' => e = .returned (.bool true) ∧ Below W.heap.size W w' := by
  have h2 : n % 2 = 0 ∨ n % 2 = 1 := by omega
  rcases h2 with h | h
  · exact pages_top (z.take len) (.slice a len cap) n W (inRow_rdJ w0) h ht
  · exact pages_frq (z.take len) (.slice a len cap) n W (inRow_rdJ w0) h ht
end Go.Proofs.YtjibbnknliamkaaGreatDoor
