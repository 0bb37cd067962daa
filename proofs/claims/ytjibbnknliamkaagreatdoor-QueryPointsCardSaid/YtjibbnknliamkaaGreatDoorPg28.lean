/- RVv: in one text. -/
import Derived.Test.YtjibbnknliamkaaGreatDoorPg25
import Derived.Test.YtjibbnknliamkaaGreatDoorPg26
import Derived.Test.YtjibbnknliamkaaGreatDoorPg27
import Derived.Test.YtjibbnknliamkaaGreatDoorPg03
import Derived.Test.YtjibbnknliamkaaGreatDoorPg15
import Derived.Test.YtjibbnknliamkaaGreatDoorPg08
import Derived.Test.YtjibbnknliamkaaGreatDoorPg17
import Derived.Test.YtjibbnknliamkaaGreatDoorPg23
import Derived.BigRegion
namespace Go.Proofs.YtjibbnknliamkaaGreatDoor
open Go.RowKit
set_option linter.unusedVariables false
set_option linter.unusedSimpArgs false
def fmO (t : TP) : SK := ⟨4, t.S, 0, 0, 0, 0, false, CM.none, LL.none, t, FQ.none, RK.none⟩
def fmQ (f : FQ) : SK := ⟨5, f.S, 0, 0, 0, 0, false, CM.none, LL.none, TP.none, f, RK.none⟩
theorem rows_em (w : World) : RdI [] (.slice none 0 0) w ∧ RdE [] (.slice none 0 0) w ∧ RdL_2 [] (.slice none 0 0) w := ⟨(OwnI.empty w.heap.size w).rd, (OwnE.empty w.heap.size w).rd, (RdB.none_ w.heap.size w).rd⟩
set_option maxRecDepth 100000 in
set_option maxHeartbeats 2000000 in
theorem rvv_4 (t : TP) (a1 : Option Addr) (c1 : Nat) (a2 : Option Addr) (c2 : Nat) (a3 : Option Addr) (c3 : Nat) (a4 : Option Addr) (c4 : Nat) (a5 : Option Addr) (c5 : Nat) (w : World) (hw : WfK (fmO t)) (h : RowsK (fmO t) (.slice a1 0 c1) (.slice a2 0 c2) (.slice a3 t.L.length c3) (.slice a4 0 c4) (.slice a5 0 c5) w) (hp : prmE 4 t.S 0 0 = 0) (hv : valE t.S t.T t.L = 0) :
    Calls Tryz.prog 37 #[.agg #[.int .i64 4, .int .i64 t.S, .int .i64 0, .int .u64 0, .int .i64 0, .int .i64 0, .bool false, .int .i64 0, .int .i64 0, .int .u64 0, .slice a1 0 c1, .bool false, .int .i64 0, .int .u64 0, .slice a2 0 c2, .int .i64 t.S, .int .i64 t.T, .slice a3 t.L.length c3, .bool t.s, .int .i64 0, .int .i64 0, .int .i64 0, .slice a4 0 c4, .bool false, .int .i64 0, .int .i64 0, .int .i64 0, .slice a5 0 c5, .bool false]] w fun e w' => e = .returned (.int .i64 0) ∧ Below w.heap.size w w' := by
  have HV' : Hid (∀ w' : World, Calls Tryz.prog 48 #[.agg #[.int .i64 4, .int .i64 t.S, .int .i64 0, .int .u64 0]] w' fun e w2 => e = .returned (.int .i64 0) ∧ Below w'.heap.size w' w2) := Lib.hid (fun w' => by
    have := rvp_any 4 t.S 0 0 w' hw.S
    rw [hp] at this
    exact this)
  have HF' : Hid (∀ w' : World, Below w.heap.size w w' → Calls Tryz.prog 77 #[.agg #[.int .i64 t.S, .int .i64 t.T, .slice a3 t.L.length c3, .bool t.s]] w' fun e w2 => e = .returned (.int .i64 0) ∧ Below w'.heap.size w' w2) := Lib.hid (fun w' hb => by
    have := rval_any t.S t.T t.L t.s a3 t.L.length c3 w' hw.tS.1 hw.tS.2 hw.tt.1 hw.tt.2 (h.2.2.1.below hb) hw.tL
    rw [hv] at this
    exact this)
  have HO' : Hid (∀ w' : World, Calls Tryz.prog 81 #[.agg #[.int .i64 4, .int .i64 t.S, .int .i64 0, .int .u64 0, .int .i64 0, .int .i64 0, .bool false, .int .i64 0, .int .i64 0, .int .u64 0, .slice a1 0 c1, .bool false, .int .i64 0, .int .u64 0, .slice a2 0 c2, .int .i64 t.S, .int .i64 t.T, .slice a3 t.L.length c3, .bool t.s, .int .i64 0, .int .i64 0, .int .i64 0, .slice a4 0 c4, .bool false, .int .i64 0, .int .i64 0, .int .i64 0, .slice a5 0 c5, .bool false]] w' fun e w2 => e = .returned (.agg #[.int .i64 4, .int .i64 t.S, .int .i64 0, .int .u64 0, .int .i64 0, .int .i64 0, .bool false, .int .i64 0, .int .i64 0, .int .u64 0, .slice none 0 0, .bool false, .int .i64 0, .int .u64 0, .slice none 0 0, .int .i64 t.S, .int .i64 t.T, .slice a3 t.L.length c3, .bool t.s, .int .i64 0, .int .i64 0, .int .i64 0, .slice none 0 0, .bool false, .int .i64 0, .int .i64 0, .int .i64 0, .slice none 0 0, .bool false]) ∧ Below w'.heap.size w' w2) := Lib.hid (fun w' =>
    (on_row (fmO t) a1 0 c1 a2 0 c2 a3 t.L.length c3 a4 0 c4 a5 0 c5 w').mono (fun e w2 he => ⟨he.1.trans (by kernel_rfl), he.2⟩))
  have HS' : Hid (∀ w' : World, Below w.heap.size w w' → Calls Tryz.prog 80 #[.agg #[.int .i64 4, .int .i64 t.S, .int .i64 0, .int .u64 0, .int .i64 0, .int .i64 0, .bool false, .int .i64 0, .int .i64 0, .int .u64 0, .slice a1 0 c1, .bool false, .int .i64 0, .int .u64 0, .slice a2 0 c2, .int .i64 t.S, .int .i64 t.T, .slice a3 t.L.length c3, .bool t.s, .int .i64 0, .int .i64 0, .int .i64 0, .slice a4 0 c4, .bool false, .int .i64 0, .int .i64 0, .int .i64 0, .slice a5 0 c5, .bool false], .agg #[.int .i64 4, .int .i64 t.S, .int .i64 0, .int .u64 0, .int .i64 0, .int .i64 0, .bool false, .int .i64 0, .int .i64 0, .int .u64 0, .slice none 0 0, .bool false, .int .i64 0, .int .u64 0, .slice none 0 0, .int .i64 t.S, .int .i64 t.T, .slice a3 t.L.length c3, .bool t.s, .int .i64 0, .int .i64 0, .int .i64 0, .slice none 0 0, .bool false, .int .i64 0, .int .i64 0, .int .i64 0, .slice none 0 0, .bool false]] w' fun e w2 => e = .returned (.bool true) ∧ Below w'.heap.size w' w2) := Lib.hid (fun w' hb => by
    have hh := h.below hb
    have he := rows_em w'
    exact rsame_row (fmO t) a1 0 c1 a2 0 c2 a3 t.L.length c3 a4 0 c4 a5 0 c5 none 0 0 none 0 0 a3 t.L.length c3 none 0 0 none 0 0 w' hh ⟨he.1, he.1, hh.2.2.1, he.2.1, he.2.2⟩ hw.tL hw.fL hw.rL)
  clear hw h hp hv
  go_enter Tryz.func37, Tryz.ntmps37
  go_upto_region 1 with (fail)
  refine wp_genW (fun w1 => RowAt w.heap.size #[.int .i64 4, .int .i64 t.S, .int .i64 0, .int .u64 0, .int .i64 0, .int .i64 0, .bool false, .int .i64 0, .int .i64 0, .int .u64 0, .slice a1 0 c1, .bool false, .int .i64 0, .int .u64 0, .slice a2 0 c2, .int .i64 t.S, .int .i64 t.T, .slice a3 t.L.length c3, .bool t.s, .int .i64 0, .int .i64 0, .int .i64 0, .slice a4 0 c4, .bool false, .int .i64 0, .int .i64 0, .int .i64 0, .slice a5 0 c5, .bool false] w1 ∧ Below w.heap.size w w1) ⟨RowAt.new _ _ _, b1 _⟩ ?_
  rintro w1 ⟨r1, hb⟩
  have R1 := Lib.hid r1
  have B1 := Lib.hid hb
  clear r1 hb
  go_upto_region 4 with (first
    | (refine ldPm (B := #[.int .i64 4, .int .i64 t.S, .int .i64 0, .int .u64 0]) rfl rfl rfl R1.out rfl (by kernel_rfl) ?_)
    | (go_at_call 48; (with_reducible refine (HV'.out _).mono ?_); rintro e w2 ⟨rfl, hb2⟩; have R2 := Lib.hid (R1.out.go hb2); have B2 := Lib.hid (bgo B1.out hb2); clear hb2 R1 B1))
  have c0 := R2.out.cell (j := 0) (v := .int .i64 4) rfl
  have c1' := R2.out.cell (j := 1) (v := .int .i64 t.S) rfl
  have c2' := R2.out.cell (j := 2) (v := .int .i64 0) rfl
  have c3' := R2.out.cell (j := 3) (v := .int .u64 0) rfl
  have lt := R2.out.lt
  go_region
  rename_i K hK
  clear c0 c1' c2' c3'
  refine hK _ _ ?_
  clear hK
  refine wp_genW (fun w3 => RowAt w.heap.size #[.int .i64 4, .int .i64 t.S, .int .i64 0, .int .u64 0, .int .i64 0, .int .i64 0, .bool false, .int .i64 0, .int .i64 0, .int .u64 0, .slice a1 0 c1, .bool false, .int .i64 0, .int .u64 0, .slice a2 0 c2, .int .i64 t.S, .int .i64 t.T, .slice a3 t.L.length c3, .bool t.s, .int .i64 0, .int .i64 0, .int .i64 0, .slice a4 0 c4, .bool false, .int .i64 0, .int .i64 0, .int .i64 0, .slice a5 0 c5, .bool false] w3 ∧ RowAt w2.heap.size #[.int .i64 4, .int .i64 t.S, .int .i64 0, .int .u64 0] w3 ∧ Below w2.heap.size w2 w3) ⟨R2.out.al _, RowAt.new w2 _ _, below_drew (b1 _)⟩ ?_
  rintro w3 ⟨r3, p3, hb3⟩
  have R3 := Lib.hid r3
  have P3 := Lib.hid p3
  have B3 := Lib.hid (bgo B2.out hb3)
  have L3 := Lib.hid hb3.size
  have G2 : Hid (w.heap.size < w2.heap.size) := Lib.hid lt
  clear r3 p3 hb3 B2 lt R2
  go_upto_region 25 with (first
    | (refine ldi (v := .int .i64 4) rfl rfl rfl P3.out rfl ?_)
    | (refine ldTo (B := #[.int .i64 t.S, .int .i64 t.T, .slice a3 t.L.length c3, .bool t.s]) rfl rfl rfl R3.out rfl (by kernel_rfl) ?_)
    | (go_at_call 77; (with_reducible refine (HF'.out _ B3.out).mono ?_); rintro e w4 ⟨rfl, hb4⟩; have R4 := Lib.hid (R3.out.go hb4); have P4 := Lib.hid (P3.out.go hb4); have B4 := Lib.hid (bgo B3.out hb4); have L4 := Lib.hid (Nat.le_trans L3.out hb4.size); clear hb4 R3 P3 B3)
    | (refine ldi (v := .int .i64 t.S) rfl rfl rfl R4.out rfl ?_)
    | (refine wp_put1 (A' := #[.int .i64 4, .int .i64 t.S, .int .i64 0, .int .u64 0]) rfl rfl rfl P4.out rfl infInt rfl rfl (show 1 < 4 by decide) (by kernel_rfl) ?_; intro w5 r5 o5; have P5 := Lib.hid r5; have R5 := Lib.hid (R4.out.oth o5 (by have := G2.out; omega)); have B5 := Lib.hid (B4.out.trans (o5.1.mono (Nat.le_of_lt G2.out))); clear r5 o5 R4 P4 B4))
  rename_i K hK
  refine wp_region_quiet (C := fun w' => Below w5.heap.size w5 w') (by kernel_rfl) (by kernel_rfl) ⟨rfl, rfl, rfl, Nat.le_refl _, fun _ _ => rfl⟩ ?_
  refine wpQuiet_do (v := .agg #[.int .i64 4, .int .i64 t.S, .int .i64 0, .int .u64 0]) rfl (fun w' hc => quiet_value (run_part rfl rfl (P5.out.go hc) Tryz.underlying32 rfl infPm rfl)) ?_
  try simp only [Act.put, List.getElem_toArray, List.getElem_cons_zero, List.getElem_cons_succ, List.setIfInBounds_toArray, List.set_cons_zero, List.set_cons_succ]
  refine wpQuiet_do (v := .pointer (some ⟨w.heap.size, 0, none⟩)) rfl (fun w' hc => quiet_value (faSk0 rfl rfl)) ?_
  try simp only [Act.put, List.getElem_toArray, List.getElem_cons_zero, List.getElem_cons_succ, List.setIfInBounds_toArray, List.set_cons_zero, List.set_cons_succ]
  refine wpQuiet_do (v := .agg #[.int .i64 4, .int .i64 t.S, .int .i64 0, .int .u64 0]) rfl (fun w' hc => quiet_value (run_part rfl rfl (R5.out.go hc) Tryz.underlying32 rfl infPm (by kernel_rfl))) ?_
  try simp only [Act.put, List.getElem_toArray, List.getElem_cons_zero, List.getElem_cons_succ, List.setIfInBounds_toArray, List.set_cons_zero, List.set_cons_succ]
  refine wpQuiet_do (v := .bool false) rfl (fun w' hc => quiet_value ((neqPm rfl rfl rfl).trans (by simp))) ?_
  try simp only [Act.put, List.getElem_toArray, List.getElem_cons_zero, List.getElem_cons_succ, List.setIfInBounds_toArray, List.set_cons_zero, List.set_cons_succ]
  refine wpQuiet_do (v := .bool false) rfl (fun w' hc => quiet_value (run_mv rfl rfl)) ?_
  try simp only [Act.put, List.getElem_toArray, List.getElem_cons_zero, List.getElem_cons_succ, List.setIfInBounds_toArray, List.set_cons_zero, List.set_cons_succ]
  refine wpQuiet_if (p := true) (v := .agg #[.int .i64 4, .int .i64 t.S, .int .i64 0, .int .u64 0, .int .i64 0, .int .i64 0, .bool false, .int .i64 0, .int .i64 0, .int .u64 0, .slice a1 0 c1, .bool false, .int .i64 0, .int .u64 0, .slice a2 0 c2, .int .i64 t.S, .int .i64 t.T, .slice a3 t.L.length c3, .bool t.s, .int .i64 0, .int .i64 0, .int .i64 0, .slice a4 0 c4, .bool false, .int .i64 0, .int .i64 0, .int .i64 0, .slice a5 0 c5, .bool false]) rfl (fun _ w' hc => quiet_value (run_part rfl rfl (R5.out.go hc) Tryz.underlying48 rfl infSk (by kernel_rfl))) ?_
  try simp only [Act.put, List.getElem_toArray, List.getElem_cons_zero, List.getElem_cons_succ, List.setIfInBounds_toArray, List.set_cons_zero, List.set_cons_succ]
  refine wpQuiet_if (p := true) (v := .agg #[.int .i64 4, .int .i64 t.S, .int .i64 0, .int .u64 0, .int .i64 0, .int .i64 0, .bool false, .int .i64 0, .int .i64 0, .int .u64 0, .slice a1 0 c1, .bool false, .int .i64 0, .int .u64 0, .slice a2 0 c2, .int .i64 t.S, .int .i64 t.T, .slice a3 t.L.length c3, .bool t.s, .int .i64 0, .int .i64 0, .int .i64 0, .slice a4 0 c4, .bool false, .int .i64 0, .int .i64 0, .int .i64 0, .slice a5 0 c5, .bool false]) rfl (fun _ w' hc => quiet_value (run_part rfl rfl (R5.out.go hc) Tryz.underlying48 rfl infSk (by kernel_rfl))) ?_
  try simp only [Act.put, List.getElem_toArray, List.getElem_cons_zero, List.getElem_cons_succ, List.setIfInBounds_toArray, List.set_cons_zero, List.set_cons_succ]
  refine wpQuiet_if (p := true) (v := .agg #[.int .i64 4, .int .i64 t.S, .int .i64 0, .int .u64 0, .int .i64 0, .int .i64 0, .bool false, .int .i64 0, .int .i64 0, .int .u64 0, .slice none 0 0, .bool false, .int .i64 0, .int .u64 0, .slice none 0 0, .int .i64 t.S, .int .i64 t.T, .slice a3 t.L.length c3, .bool t.s, .int .i64 0, .int .i64 0, .int .i64 0, .slice none 0 0, .bool false, .int .i64 0, .int .i64 0, .int .i64 0, .slice none 0 0, .bool false]) rfl (fun _ w' hc => quiet_enter (run_call1 (Go.Proofs.enters_of Tryz.func81 (by kernel_rfl) rfl) rfl rfl) ((HO'.out w').mono (fun e w'' h => ⟨h.1, bgo hc h.2⟩))) ?_
  try simp only [Act.put, List.getElem_toArray, List.getElem_cons_zero, List.getElem_cons_succ, List.setIfInBounds_toArray, List.set_cons_zero, List.set_cons_succ]
  refine wpQuiet_if (p := true) (v := .bool true) rfl (fun _ w' hc => quiet_enter (run_call2 (Go.Proofs.enters_of Tryz.func80 (by kernel_rfl) rfl) rfl rfl rfl) ((HS'.out w' (bgo B5.out hc)).mono (fun e w'' h => ⟨h.1, bgo hc h.2⟩))) ?_
  try simp only [Act.put, List.getElem_toArray, List.getElem_cons_zero, List.getElem_cons_succ, List.setIfInBounds_toArray, List.set_cons_zero, List.set_cons_succ]
  refine wpQuiet_if (p := true) (v := .bool (!true)) rfl (fun _ w' hc => quiet_value (not_b rfl rfl)) ?_
  try simp only [Act.put, List.getElem_toArray, List.getElem_cons_zero, List.getElem_cons_succ, List.setIfInBounds_toArray, List.set_cons_zero, List.set_cons_succ]
  refine wpQuiet_do (v := .bool (!true)) rfl (fun w' hc => quiet_value (run_pkF rfl rfl rfl)) ?_
  try simp only [Act.put, List.getElem_toArray, List.getElem_cons_zero, List.getElem_cons_succ, List.setIfInBounds_toArray, List.set_cons_zero, List.set_cons_succ]
  refine wpQuiet_nil ?_
  intro w6 hw6
  have B6 := Lib.hid (bgo B5.out hw6)
  refine hK _ _ ?_
  clear hK hw6 R5 P5 B5
  try simp only [Act.put, List.getElem_toArray, List.getElem_cons_zero, List.getElem_cons_succ, List.setIfInBounds_toArray, List.set_cons_zero, List.set_cons_succ]
  go_wp2
  go_ret
  exact ⟨rfl, B6.out⟩
set_option maxRecDepth 100000 in
set_option maxHeartbeats 2000000 in
theorem rvv_5 (f : FQ) (a1 : Option Addr) (c1 : Nat) (a2 : Option Addr) (c2 : Nat) (a3 : Option Addr) (c3 : Nat) (a4 : Option Addr) (c4 : Nat) (a5 : Option Addr) (c5 : Nat) (w : World) (hw : WfK (fmQ f)) (h : RowsK (fmQ f) (.slice a1 0 c1) (.slice a2 0 c2) (.slice a3 0 c3) (.slice a4 f.L.length c4) (.slice a5 0 c5) w) (hp : prmE 5 f.S 0 0 = 0) (hv : valQ f.S f.T f.K f.L = 0) :
    Calls Tryz.prog 37 #[.agg #[.int .i64 5, .int .i64 f.S, .int .i64 0, .int .u64 0, .int .i64 0, .int .i64 0, .bool false, .int .i64 0, .int .i64 0, .int .u64 0, .slice a1 0 c1, .bool false, .int .i64 0, .int .u64 0, .slice a2 0 c2, .int .i64 0, .int .i64 0, .slice a3 0 c3, .bool false, .int .i64 f.S, .int .i64 f.T, .int .i64 f.K, .slice a4 f.L.length c4, .bool f.s, .int .i64 0, .int .i64 0, .int .i64 0, .slice a5 0 c5, .bool false]] w fun e w' => e = .returned (.int .i64 0) ∧ Below w.heap.size w w' := by
  have HV' : Hid (∀ w' : World, Calls Tryz.prog 48 #[.agg #[.int .i64 5, .int .i64 f.S, .int .i64 0, .int .u64 0]] w' fun e w2 => e = .returned (.int .i64 0) ∧ Below w'.heap.size w' w2) := Lib.hid (fun w' => by
    have := rvp_any 5 f.S 0 0 w' hw.S
    rw [hp] at this
    exact this)
  have HF' : Hid (∀ w' : World, Below w.heap.size w w' → Calls Tryz.prog 78 #[.agg #[.int .i64 f.S, .int .i64 f.T, .int .i64 f.K, .slice a4 f.L.length c4, .bool f.s]] w' fun e w2 => e = .returned (.int .i64 0) ∧ Below w'.heap.size w' w2) := Lib.hid (fun w' hb => by
    have := rvalQ_any f.S f.T f.K f.L f.s a4 f.L.length c4 w' (h.2.2.2.1.below hb) hw.fL
    rw [hv] at this
    exact this)
  have HO' : Hid (∀ w' : World, Calls Tryz.prog 81 #[.agg #[.int .i64 5, .int .i64 f.S, .int .i64 0, .int .u64 0, .int .i64 0, .int .i64 0, .bool false, .int .i64 0, .int .i64 0, .int .u64 0, .slice a1 0 c1, .bool false, .int .i64 0, .int .u64 0, .slice a2 0 c2, .int .i64 0, .int .i64 0, .slice a3 0 c3, .bool false, .int .i64 f.S, .int .i64 f.T, .int .i64 f.K, .slice a4 f.L.length c4, .bool f.s, .int .i64 0, .int .i64 0, .int .i64 0, .slice a5 0 c5, .bool false]] w' fun e w2 => e = .returned (.agg #[.int .i64 5, .int .i64 f.S, .int .i64 0, .int .u64 0, .int .i64 0, .int .i64 0, .bool false, .int .i64 0, .int .i64 0, .int .u64 0, .slice none 0 0, .bool false, .int .i64 0, .int .u64 0, .slice none 0 0, .int .i64 0, .int .i64 0, .slice none 0 0, .bool false, .int .i64 f.S, .int .i64 f.T, .int .i64 f.K, .slice a4 f.L.length c4, .bool f.s, .int .i64 0, .int .i64 0, .int .i64 0, .slice none 0 0, .bool false]) ∧ Below w'.heap.size w' w2) := Lib.hid (fun w' =>
    (on_row (fmQ f) a1 0 c1 a2 0 c2 a3 0 c3 a4 f.L.length c4 a5 0 c5 w').mono (fun e w2 he => ⟨he.1.trans (by kernel_rfl), he.2⟩))
  have HS' : Hid (∀ w' : World, Below w.heap.size w w' → Calls Tryz.prog 80 #[.agg #[.int .i64 5, .int .i64 f.S, .int .i64 0, .int .u64 0, .int .i64 0, .int .i64 0, .bool false, .int .i64 0, .int .i64 0, .int .u64 0, .slice a1 0 c1, .bool false, .int .i64 0, .int .u64 0, .slice a2 0 c2, .int .i64 0, .int .i64 0, .slice a3 0 c3, .bool false, .int .i64 f.S, .int .i64 f.T, .int .i64 f.K, .slice a4 f.L.length c4, .bool f.s, .int .i64 0, .int .i64 0, .int .i64 0, .slice a5 0 c5, .bool false], .agg #[.int .i64 5, .int .i64 f.S, .int .i64 0, .int .u64 0, .int .i64 0, .int .i64 0, .bool false, .int .i64 0, .int .i64 0, .int .u64 0, .slice none 0 0, .bool false, .int .i64 0, .int .u64 0, .slice none 0 0, .int .i64 0, .int .i64 0, .slice none 0 0, .bool false, .int .i64 f.S, .int .i64 f.T, .int .i64 f.K, .slice a4 f.L.length c4, .bool f.s, .int .i64 0, .int .i64 0, .int .i64 0, .slice none 0 0, .bool false]] w' fun e w2 => e = .returned (.bool true) ∧ Below w'.heap.size w' w2) := Lib.hid (fun w' hb => by
    have hh := h.below hb
    have he := rows_em w'
    exact rsame_row (fmQ f) a1 0 c1 a2 0 c2 a3 0 c3 a4 f.L.length c4 a5 0 c5 none 0 0 none 0 0 none 0 0 a4 f.L.length c4 none 0 0 w' hh ⟨he.1, he.1, he.2.1, hh.2.2.2.1, he.2.2⟩ hw.tL hw.fL hw.rL)
  clear hw h hp hv
  go_enter Tryz.func37, Tryz.ntmps37
  go_upto_region 1 with (fail)
  refine wp_genW (fun w1 => RowAt w.heap.size #[.int .i64 5, .int .i64 f.S, .int .i64 0, .int .u64 0, .int .i64 0, .int .i64 0, .bool false, .int .i64 0, .int .i64 0, .int .u64 0, .slice a1 0 c1, .bool false, .int .i64 0, .int .u64 0, .slice a2 0 c2, .int .i64 0, .int .i64 0, .slice a3 0 c3, .bool false, .int .i64 f.S, .int .i64 f.T, .int .i64 f.K, .slice a4 f.L.length c4, .bool f.s, .int .i64 0, .int .i64 0, .int .i64 0, .slice a5 0 c5, .bool false] w1 ∧ Below w.heap.size w w1) ⟨RowAt.new _ _ _, b1 _⟩ ?_
  rintro w1 ⟨r1, hb⟩
  have R1 := Lib.hid r1
  have B1 := Lib.hid hb
  clear r1 hb
  go_upto_region 4 with (first
    | (refine ldPm (B := #[.int .i64 5, .int .i64 f.S, .int .i64 0, .int .u64 0]) rfl rfl rfl R1.out rfl (by kernel_rfl) ?_)
    | (go_at_call 48; (with_reducible refine (HV'.out _).mono ?_); rintro e w2 ⟨rfl, hb2⟩; have R2 := Lib.hid (R1.out.go hb2); have B2 := Lib.hid (bgo B1.out hb2); clear hb2 R1 B1))
  have c0 := R2.out.cell (j := 0) (v := .int .i64 5) rfl
  have c1' := R2.out.cell (j := 1) (v := .int .i64 f.S) rfl
  have c2' := R2.out.cell (j := 2) (v := .int .i64 0) rfl
  have c3' := R2.out.cell (j := 3) (v := .int .u64 0) rfl
  have lt := R2.out.lt
  go_region
  rename_i K hK
  clear c0 c1' c2' c3'
  refine hK _ _ ?_
  clear hK
  refine wp_genW (fun w3 => RowAt w.heap.size #[.int .i64 5, .int .i64 f.S, .int .i64 0, .int .u64 0, .int .i64 0, .int .i64 0, .bool false, .int .i64 0, .int .i64 0, .int .u64 0, .slice a1 0 c1, .bool false, .int .i64 0, .int .u64 0, .slice a2 0 c2, .int .i64 0, .int .i64 0, .slice a3 0 c3, .bool false, .int .i64 f.S, .int .i64 f.T, .int .i64 f.K, .slice a4 f.L.length c4, .bool f.s, .int .i64 0, .int .i64 0, .int .i64 0, .slice a5 0 c5, .bool false] w3 ∧ RowAt w2.heap.size #[.int .i64 5, .int .i64 f.S, .int .i64 0, .int .u64 0] w3 ∧ Below w2.heap.size w2 w3) ⟨R2.out.al _, RowAt.new w2 _ _, below_drew (b1 _)⟩ ?_
  rintro w3 ⟨r3, p3, hb3⟩
  have R3 := Lib.hid r3
  have P3 := Lib.hid p3
  have B3 := Lib.hid (bgo B2.out hb3)
  have L3 := Lib.hid hb3.size
  have G2 : Hid (w.heap.size < w2.heap.size) := Lib.hid lt
  clear r3 p3 hb3 B2 lt R2
  go_upto_region 25 with (first
    | (refine ldi (v := .int .i64 5) rfl rfl rfl P3.out rfl ?_)
    | (refine ldFq (B := #[.int .i64 f.S, .int .i64 f.T, .int .i64 f.K, .slice a4 f.L.length c4, .bool f.s]) rfl rfl rfl R3.out rfl (by kernel_rfl) ?_)
    | (go_at_call 78; (with_reducible refine (HF'.out _ B3.out).mono ?_); rintro e w4 ⟨rfl, hb4⟩; have R4 := Lib.hid (R3.out.go hb4); have P4 := Lib.hid (P3.out.go hb4); have B4 := Lib.hid (bgo B3.out hb4); have L4 := Lib.hid (Nat.le_trans L3.out hb4.size); clear hb4 R3 P3 B3)
    | (refine ldi (v := .int .i64 f.S) rfl rfl rfl R4.out rfl ?_)
    | (refine wp_put1 (A' := #[.int .i64 5, .int .i64 f.S, .int .i64 0, .int .u64 0]) rfl rfl rfl P4.out rfl infInt rfl rfl (show 1 < 4 by decide) (by kernel_rfl) ?_; intro w5 r5 o5; have P5 := Lib.hid r5; have R5 := Lib.hid (R4.out.oth o5 (by have := G2.out; omega)); have B5 := Lib.hid (B4.out.trans (o5.1.mono (Nat.le_of_lt G2.out))); clear r5 o5 R4 P4 B4))
  rename_i K hK
  refine wp_region_quiet (C := fun w' => Below w5.heap.size w5 w') (by kernel_rfl) (by kernel_rfl) ⟨rfl, rfl, rfl, Nat.le_refl _, fun _ _ => rfl⟩ ?_
  refine wpQuiet_do (v := .agg #[.int .i64 5, .int .i64 f.S, .int .i64 0, .int .u64 0]) rfl (fun w' hc => quiet_value (run_part rfl rfl (P5.out.go hc) Tryz.underlying32 rfl infPm rfl)) ?_
  try simp only [Act.put, List.getElem_toArray, List.getElem_cons_zero, List.getElem_cons_succ, List.setIfInBounds_toArray, List.set_cons_zero, List.set_cons_succ]
  refine wpQuiet_do (v := .pointer (some ⟨w.heap.size, 0, none⟩)) rfl (fun w' hc => quiet_value (faSk0 rfl rfl)) ?_
  try simp only [Act.put, List.getElem_toArray, List.getElem_cons_zero, List.getElem_cons_succ, List.setIfInBounds_toArray, List.set_cons_zero, List.set_cons_succ]
  refine wpQuiet_do (v := .agg #[.int .i64 5, .int .i64 f.S, .int .i64 0, .int .u64 0]) rfl (fun w' hc => quiet_value (run_part rfl rfl (R5.out.go hc) Tryz.underlying32 rfl infPm (by kernel_rfl))) ?_
  try simp only [Act.put, List.getElem_toArray, List.getElem_cons_zero, List.getElem_cons_succ, List.setIfInBounds_toArray, List.set_cons_zero, List.set_cons_succ]
  refine wpQuiet_do (v := .bool false) rfl (fun w' hc => quiet_value ((neqPm rfl rfl rfl).trans (by simp))) ?_
  try simp only [Act.put, List.getElem_toArray, List.getElem_cons_zero, List.getElem_cons_succ, List.setIfInBounds_toArray, List.set_cons_zero, List.set_cons_succ]
  refine wpQuiet_do (v := .bool false) rfl (fun w' hc => quiet_value (run_mv rfl rfl)) ?_
  try simp only [Act.put, List.getElem_toArray, List.getElem_cons_zero, List.getElem_cons_succ, List.setIfInBounds_toArray, List.set_cons_zero, List.set_cons_succ]
  refine wpQuiet_if (p := true) (v := .agg #[.int .i64 5, .int .i64 f.S, .int .i64 0, .int .u64 0, .int .i64 0, .int .i64 0, .bool false, .int .i64 0, .int .i64 0, .int .u64 0, .slice a1 0 c1, .bool false, .int .i64 0, .int .u64 0, .slice a2 0 c2, .int .i64 0, .int .i64 0, .slice a3 0 c3, .bool false, .int .i64 f.S, .int .i64 f.T, .int .i64 f.K, .slice a4 f.L.length c4, .bool f.s, .int .i64 0, .int .i64 0, .int .i64 0, .slice a5 0 c5, .bool false]) rfl (fun _ w' hc => quiet_value (run_part rfl rfl (R5.out.go hc) Tryz.underlying48 rfl infSk (by kernel_rfl))) ?_
  try simp only [Act.put, List.getElem_toArray, List.getElem_cons_zero, List.getElem_cons_succ, List.setIfInBounds_toArray, List.set_cons_zero, List.set_cons_succ]
  refine wpQuiet_if (p := true) (v := .agg #[.int .i64 5, .int .i64 f.S, .int .i64 0, .int .u64 0, .int .i64 0, .int .i64 0, .bool false, .int .i64 0, .int .i64 0, .int .u64 0, .slice a1 0 c1, .bool false, .int .i64 0, .int .u64 0, .slice a2 0 c2, .int .i64 0, .int .i64 0, .slice a3 0 c3, .bool false, .int .i64 f.S, .int .i64 f.T, .int .i64 f.K, .slice a4 f.L.length c4, .bool f.s, .int .i64 0, .int .i64 0, .int .i64 0, .slice a5 0 c5, .bool false]) rfl (fun _ w' hc => quiet_value (run_part rfl rfl (R5.out.go hc) Tryz.underlying48 rfl infSk (by kernel_rfl))) ?_
  try simp only [Act.put, List.getElem_toArray, List.getElem_cons_zero, List.getElem_cons_succ, List.setIfInBounds_toArray, List.set_cons_zero, List.set_cons_succ]
  refine wpQuiet_if (p := true) (v := .agg #[.int .i64 5, .int .i64 f.S, .int .i64 0, .int .u64 0, .int .i64 0, .int .i64 0, .bool false, .int .i64 0, .int .i64 0, .int .u64 0, .slice none 0 0, .bool false, .int .i64 0, .int .u64 0, .slice none 0 0, .int .i64 0, .int .i64 0, .slice none 0 0, .bool false, .int .i64 f.S, .int .i64 f.T, .int .i64 f.K, .slice a4 f.L.length c4, .bool f.s, .int .i64 0, .int .i64 0, .int .i64 0, .slice none 0 0, .bool false]) rfl (fun _ w' hc => quiet_enter (run_call1 (Go.Proofs.enters_of Tryz.func81 (by kernel_rfl) rfl) rfl rfl) ((HO'.out w').mono (fun e w'' h => ⟨h.1, bgo hc h.2⟩))) ?_
  try simp only [Act.put, List.getElem_toArray, List.getElem_cons_zero, List.getElem_cons_succ, List.setIfInBounds_toArray, List.set_cons_zero, List.set_cons_succ]
  refine wpQuiet_if (p := true) (v := .bool true) rfl (fun _ w' hc => quiet_enter (run_call2 (Go.Proofs.enters_of Tryz.func80 (by kernel_rfl) rfl) rfl rfl rfl) ((HS'.out w' (bgo B5.out hc)).mono (fun e w'' h => ⟨h.1, bgo hc h.2⟩))) ?_
  try simp only [Act.put, List.getElem_toArray, List.getElem_cons_zero, List.getElem_cons_succ, List.setIfInBounds_toArray, List.set_cons_zero, List.set_cons_succ]
  refine wpQuiet_if (p := true) (v := .bool (!true)) rfl (fun _ w' hc => quiet_value (not_b rfl rfl)) ?_
  try simp only [Act.put, List.getElem_toArray, List.getElem_cons_zero, List.getElem_cons_succ, List.setIfInBounds_toArray, List.set_cons_zero, List.set_cons_succ]
  refine wpQuiet_do (v := .bool (!true)) rfl (fun w' hc => quiet_value (run_pkF rfl rfl rfl)) ?_
  try simp only [Act.put, List.getElem_toArray, List.getElem_cons_zero, List.getElem_cons_succ, List.setIfInBounds_toArray, List.set_cons_zero, List.set_cons_succ]
  refine wpQuiet_nil ?_
  intro w6 hw6
  have B6 := Lib.hid (bgo B5.out hw6)
  refine hK _ _ ?_
  clear hK hw6 R5 P5 B5
  try simp only [Act.put, List.getElem_toArray, List.getElem_cons_zero, List.getElem_cons_succ, List.setIfInBounds_toArray, List.set_cons_zero, List.set_cons_succ]
  go_wp2
  go_ret
  exact ⟨rfl, B6.out⟩
end Go.Proofs.YtjibbnknliamkaaGreatDoor
