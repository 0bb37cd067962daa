/- KnB13, KnC13: in one text. -/
import Derived.Test.YtjibbnknliamkaaGreatDoorPg27
import Derived.Test.YtjibbnknliamkaaGreatDoorPg29
import Derived.Test.YtjibbnknliamkaaGreatDoorPg32
import Derived.Test.YtjibbnknliamkaaGreatDoorPg33
import Derived.Test.YtjibbnknliamkaaGreatDoorPg34
import Derived.Test.YtjibbnknliamkaaGreatDoorPg30
import Derived.BigRegion
namespace Go.Proofs.YtjibbnknliamkaaGreatDoor
open Go.RowKit
set_option linter.unusedVariables false
set_option linter.unusedSimpArgs false
set_option maxRecDepth 100000 in
set_option maxHeartbeats 2000000 in
theorem tot_t (a1 : Option Addr) (c1 : Nat) (a2 : Option Addr) (c2 : Nat) (a3 : Option Addr) (c3 : Nat) (a4 : Option Addr) (c4 : Nat) (a5 : Option Addr) (c5 : Nat) (w : World) :
    Calls Tryz.prog 68 #[.agg #[.int .i64 1, .int .i64 0, .int .i64 0, .int .u64 0, .int .i64 7, .int .i64 1, .bool false, .int .i64 0, .int .i64 0, .int .u64 0, .slice a1 0 c1, .bool false, .int .i64 0, .int .u64 0, .slice a2 0 c2, .int .i64 0, .int .i64 0, .slice a3 0 c3, .bool false, .int .i64 0, .int .i64 0, .int .i64 0, .slice a4 0 c4, .bool false, .int .i64 0, .int .i64 0, .int .i64 0, .slice a5 0 c5, .bool false]] w fun e w' => e = .returned (.int .i64 7) ∧ Below w.heap.size w w' := by
  go_enter Tryz.func68, Tryz.ntmps68
  go_upto_region 1 with (fail)
  refine wp_genW (fun w1 => RowAt w.heap.size #[.int .i64 1, .int .i64 0, .int .i64 0, .int .u64 0, .int .i64 7, .int .i64 1, .bool false, .int .i64 0, .int .i64 0, .int .u64 0, .slice a1 0 c1, .bool false, .int .i64 0, .int .u64 0, .slice a2 0 c2, .int .i64 0, .int .i64 0, .slice a3 0 c3, .bool false, .int .i64 0, .int .i64 0, .int .i64 0, .slice a4 0 c4, .bool false, .int .i64 0, .int .i64 0, .int .i64 0, .slice a5 0 c5, .bool false] w1 ∧ Below w.heap.size w w1) ⟨RowAt.new _ _ _, b1 _⟩ ?_
  rintro w1 ⟨r1, hb⟩
  have R1 := Lib.hid r1
  have B1 := Lib.hid hb
  clear r1 hb
  go_wp2_with (first
    | (refine ldi (v := .int .i64 1) rfl rfl rfl R1.out rfl ?_)
    | (refine ldi (v := .int .i64 7) rfl rfl rfl R1.out rfl ?_))
  go_ret
  exact ⟨rfl, B1.out⟩
set_option maxRecDepth 100000 in
set_option maxHeartbeats 2000000 in
theorem sat_t (a1 : Option Addr) (c1 : Nat) (a2 : Option Addr) (c2 : Nat) (a3 : Option Addr) (c3 : Nat) (a4 : Option Addr) (c4 : Nat) (a5 : Option Addr) (c5 : Nat) (w : World) :
    Calls Tryz.prog 36 #[.agg #[.int .i64 1, .int .i64 0, .int .i64 0, .int .u64 0, .int .i64 7, .int .i64 1, .bool false, .int .i64 0, .int .i64 0, .int .u64 0, .slice a1 0 c1, .bool false, .int .i64 0, .int .u64 0, .slice a2 0 c2, .int .i64 0, .int .i64 0, .slice a3 0 c3, .bool false, .int .i64 0, .int .i64 0, .int .i64 0, .slice a4 0 c4, .bool false, .int .i64 0, .int .i64 0, .int .i64 0, .slice a5 0 c5, .bool false]] w fun e w' => e = .returned (.bool false) ∧ Below w.heap.size w w' := by
  go_enter Tryz.func36, Tryz.ntmps36
  go_upto_region 1 with (fail)
  refine wp_genW (fun w1 => RowAt w.heap.size #[.int .i64 1, .int .i64 0, .int .i64 0, .int .u64 0, .int .i64 7, .int .i64 1, .bool false, .int .i64 0, .int .i64 0, .int .u64 0, .slice a1 0 c1, .bool false, .int .i64 0, .int .u64 0, .slice a2 0 c2, .int .i64 0, .int .i64 0, .slice a3 0 c3, .bool false, .int .i64 0, .int .i64 0, .int .i64 0, .slice a4 0 c4, .bool false, .int .i64 0, .int .i64 0, .int .i64 0, .slice a5 0 c5, .bool false] w1 ∧ Below w.heap.size w w1) ⟨RowAt.new _ _ _, b1 _⟩ ?_
  rintro w1 ⟨r1, hb⟩
  have R1 := Lib.hid r1
  have B1 := Lib.hid hb
  clear r1 hb
  go_wp2_with (first
    | (refine ldi (v := .int .i64 1) rfl rfl rfl R1.out rfl ?_)
    | (refine ldb (v := .bool false) rfl rfl rfl R1.out rfl ?_))
  go_ret
  exact ⟨rfl, B1.out⟩
set_option maxRecDepth 100000 in
set_option maxHeartbeats 2000000 in
theorem ans_t (a1 : Option Addr) (c1 : Nat) (a2 : Option Addr) (c2 : Nat) (a3 : Option Addr) (c3 : Nat) (a4 : Option Addr) (c4 : Nat) (a5 : Option Addr) (c5 : Nat) (w : World) :
    Calls Tryz.prog 35 #[.agg #[.int .i64 1, .int .i64 0, .int .i64 0, .int .u64 0, .int .i64 7, .int .i64 1, .bool false, .int .i64 0, .int .i64 0, .int .u64 0, .slice a1 0 c1, .bool false, .int .i64 0, .int .u64 0, .slice a2 0 c2, .int .i64 0, .int .i64 0, .slice a3 0 c3, .bool false, .int .i64 0, .int .i64 0, .int .i64 0, .slice a4 0 c4, .bool false, .int .i64 0, .int .i64 0, .int .i64 0, .slice a5 0 c5, .bool false], .agg #[.int .i64 1, .string ByteArray.empty, .int .i64 0, .int .i64 0, .int .i64 0]] w fun e w' => e = .returned (.tuple #[.agg #[.int .i64 7, .int .i64 0, .string ByteArray.empty, .slice none 0 0, .slice none 0 0, .bool false], .int .i64 0]) ∧ Below w.heap.size w w' := by
  have HT := Lib.hid (fun w => tot_t a1 c1 a2 c2 a3 c3 a4 c4 a5 c5 w)
  go_enter Tryz.func35, Tryz.ntmps35
  go_upto_region 1 with (fail)
  refine wp_genW (fun w1 => RowAt w.heap.size #[.int .i64 1, .int .i64 0, .int .i64 0, .int .u64 0, .int .i64 7, .int .i64 1, .bool false, .int .i64 0, .int .i64 0, .int .u64 0, .slice a1 0 c1, .bool false, .int .i64 0, .int .u64 0, .slice a2 0 c2, .int .i64 0, .int .i64 0, .slice a3 0 c3, .bool false, .int .i64 0, .int .i64 0, .int .i64 0, .slice a4 0 c4, .bool false, .int .i64 0, .int .i64 0, .int .i64 0, .slice a5 0 c5, .bool false] w1 ∧ RowAt (w.heap.size + 1) #[.int .i64 1, .string ByteArray.empty, .int .i64 0, .int .i64 0, .int .i64 0] w1 ∧ RowAt (w.heap.size + 1 + 1) zcAn w1 ∧ Below w.heap.size w w1) ⟨((RowAt.new _ _ _).al _).al _, (RowAt.new1 _ _ _ _).al _, RowAt.new2 _ _ _ _ _, b3 _ _ _⟩ ?_
  rintro w1 ⟨r1, r2, r3, hb⟩
  have R1 := Lib.hid r1
  have Q1 := Lib.hid r2
  have Z1 := Lib.hid r3
  have B1 := Lib.hid hb
  clear r1 r2 r3 hb
  go_wp2_with (first
    | (refine ldi (v := .int .i64 1) rfl rfl rfl Q1.out rfl ?_)
    | (refine ldSk (B := #[.int .i64 1, .int .i64 0, .int .i64 0, .int .u64 0, .int .i64 7, .int .i64 1, .bool false, .int .i64 0, .int .i64 0, .int .u64 0, .slice a1 0 c1, .bool false, .int .i64 0, .int .u64 0, .slice a2 0 c2, .int .i64 0, .int .i64 0, .slice a3 0 c3, .bool false, .int .i64 0, .int .i64 0, .int .i64 0, .slice a4 0 c4, .bool false, .int .i64 0, .int .i64 0, .int .i64 0, .slice a5 0 c5, .bool false]) rfl rfl rfl R1.out rfl (by kernel_rfl) ?_)
    | (go_at_call 68; (with_reducible refine (HT.out _).mono ?_); rintro e w2 ⟨rfl, hb2⟩; have Z2 := Lib.hid (Z1.out.go hb2); have B2 := Lib.hid (bgo B1.out hb2); clear hb2 R1 Q1 Z1 B1)
    | (refine stci (A' := #[.int .i64 7, .int .i64 0, .string ByteArray.empty, .slice none 0 0, .slice none 0 0, .bool false]) rfl rfl rfl Z2.out rfl (show 0 < 6 by decide) rfl ?_; intro w3 r3 o3; have Z3 := Lib.hid r3; have B3 := Lib.hid (B2.out.trans (o3.1.mono (by omega))); clear r3 o3 Z2 B2)
    | (refine ldAn (B := #[.int .i64 7, .int .i64 0, .string ByteArray.empty, .slice none 0 0, .slice none 0 0, .bool false]) rfl rfl rfl Z3.out rfl rfl ?_)
    | (refine stAn rfl rfl rfl Z3.out rfl rfl rfl rfl ?_; intro w4 r4 o4; have Z4 := Lib.hid r4; have B4 := Lib.hid (B3.out.trans (o4.1.mono (by omega))); clear r4 o4))
  exact ret_row2 Tryz.results35 rfl rfl rfl Z4.out Tryz.underlying51 rfl infAn ⟨rfl, B4.out⟩
theorem wf_t7 : WfK ⟨1, 0, 0, 0, 7, 1, false, CM.none, LL.none, TP.none, FQ.none, RK.none⟩ := ⟨by unfold I64; decide, by unfold I64; decide, by unfold I64; decide, by unfold U64; decide, by unfold I64; decide, by unfold I64; decide, by unfold I64; decide, by unfold I64; decide, by unfold U64; decide, by unfold I64; decide, by unfold U64; decide, by unfold I64; decide, by unfold I64; decide, by decide, by decide, ⟨by decide, fun l hl => by cases hl⟩⟩
theorem val_t7 : valK ⟨1, 0, 0, 0, 7, 1, false, CM.none, LL.none, TP.none, FQ.none, RK.none⟩ = 0 := by decide
theorem qr_t1 : qrE 1 ByteArray.empty 0 0 0 = 0 := by simp [qrE, qrU, qrS, show ByteArray.empty.toList = [] by rw [Lib.toList_data]; rfl]
theorem qr_t5 : qrE 5 ByteArray.empty 0 0 0 = 0 := by simp [qrE, qrU, qrS, show ByteArray.empty.toList = [] by rw [Lib.toList_data]; rfl]
set_option maxRecDepth 100000 in
set_option maxHeartbeats 2000000 in
theorem ask_1 (a1 : Option Addr) (c1 : Nat) (a2 : Option Addr) (c2 : Nat) (a3 : Option Addr) (c3 : Nat) (a4 : Option Addr) (c4 : Nat) (a5 : Option Addr) (c5 : Nat) (w : World) (h : RowsK ⟨1, 0, 0, 0, 7, 1, false, CM.none, LL.none, TP.none, FQ.none, RK.none⟩ (.slice a1 0 c1) (.slice a2 0 c2) (.slice a3 0 c3) (.slice a4 0 c4) (.slice a5 0 c5) w) (ht : SupT w) :
    Calls Tryz.prog 15 #[.agg #[.int .i64 1, .int .i64 0, .int .i64 0, .int .u64 0, .int .i64 7, .int .i64 1, .bool false, .int .i64 0, .int .i64 0, .int .u64 0, .slice a1 0 c1, .bool false, .int .i64 0, .int .u64 0, .slice a2 0 c2, .int .i64 0, .int .i64 0, .slice a3 0 c3, .bool false, .int .i64 0, .int .i64 0, .int .i64 0, .slice a4 0 c4, .bool false, .int .i64 0, .int .i64 0, .int .i64 0, .slice a5 0 c5, .bool false], .agg #[.int .i64 1, .string ByteArray.empty, .int .i64 0, .int .i64 0, .int .i64 0]] w fun e w' => e = .returned (.tuple #[.agg #[.int .i64 7, .int .i64 0, .string ByteArray.empty, .slice none 0 0, .slice none 0 0, .bool false], .int .i64 0]) ∧ Below w.heap.size w w' := by
  have HV : Hid (∀ w' : World, Below w.heap.size w w' → Calls Tryz.prog 34 #[.agg #[.int .i64 1, .int .i64 0, .int .i64 0, .int .u64 0, .int .i64 7, .int .i64 1, .bool false, .int .i64 0, .int .i64 0, .int .u64 0, .slice a1 0 c1, .bool false, .int .i64 0, .int .u64 0, .slice a2 0 c2, .int .i64 0, .int .i64 0, .slice a3 0 c3, .bool false, .int .i64 0, .int .i64 0, .int .i64 0, .slice a4 0 c4, .bool false, .int .i64 0, .int .i64 0, .int .i64 0, .slice a5 0 c5, .bool false]] w' fun e w2 => e = .returned (.int .i64 0) ∧ Below w'.heap.size w' w2) := Lib.hid (fun w' hb => by
    have := val_row ⟨1, 0, 0, 0, 7, 1, false, CM.none, LL.none, TP.none, FQ.none, RK.none⟩ a1 c1 a2 c2 a3 c3 a4 c4 a5 c5 w' wf_t7 (h.below hb)
    rw [val_t7] at this
    exact this)
  have HQ := Lib.hid (fun w => pqv_any 1 ByteArray.empty 0 0 0 w (by decide))
  rw [qr_t1] at HQ
  have HA := Lib.hid (fun w => ans_t a1 c1 a2 c2 a3 c3 a4 c4 a5 c5 w)
  have HS := Lib.hid (fun w => sat_t a1 c1 a2 c2 a3 c3 a4 c4 a5 c5 w)
  have T0 := Lib.hid ht
  clear h ht
  go_enter Tryz.func15, Tryz.ntmps15
  go_upto_region 1 with (fail)
  refine wp_genW (fun w1 => RowAt w.heap.size #[.int .i64 1, .int .i64 0, .int .i64 0, .int .u64 0, .int .i64 7, .int .i64 1, .bool false, .int .i64 0, .int .i64 0, .int .u64 0, .slice a1 0 c1, .bool false, .int .i64 0, .int .u64 0, .slice a2 0 c2, .int .i64 0, .int .i64 0, .slice a3 0 c3, .bool false, .int .i64 0, .int .i64 0, .int .i64 0, .slice a4 0 c4, .bool false, .int .i64 0, .int .i64 0, .int .i64 0, .slice a5 0 c5, .bool false] w1 ∧ RowAt (w.heap.size + 1) #[.int .i64 1, .string ByteArray.empty, .int .i64 0, .int .i64 0, .int .i64 0] w1 ∧ RowAt (w.heap.size + 1 + 1) zcAn w1 ∧ Below w.heap.size w w1) ⟨((RowAt.new _ _ _).al _).al _, (RowAt.new1 _ _ _ _).al _, RowAt.new2 _ _ _ _ _, b3 _ _ _⟩ ?_
  rintro w1 ⟨r1, r2, r3, hb⟩
  have R1 := Lib.hid r1
  have Q1 := Lib.hid r2
  have Z1 := Lib.hid r3
  have B1 := Lib.hid hb
  clear r1 r2 r3 hb
  go_upto_region 7 with (first
    | (refine ldSk (B := #[.int .i64 1, .int .i64 0, .int .i64 0, .int .u64 0, .int .i64 7, .int .i64 1, .bool false, .int .i64 0, .int .i64 0, .int .u64 0, .slice a1 0 c1, .bool false, .int .i64 0, .int .u64 0, .slice a2 0 c2, .int .i64 0, .int .i64 0, .slice a3 0 c3, .bool false, .int .i64 0, .int .i64 0, .int .i64 0, .slice a4 0 c4, .bool false, .int .i64 0, .int .i64 0, .int .i64 0, .slice a5 0 c5, .bool false]) rfl rfl rfl R1.out rfl (by kernel_rfl) ?_)
    | (go_at_call 34; (with_reducible refine (HV.out _ B1.out).mono ?_); rintro e w2 ⟨rfl, hb2⟩; have R2 := Lib.hid (R1.out.go hb2); have Q2 := Lib.hid (Q1.out.go hb2); have Z2 := Lib.hid (Z1.out.go hb2); have B2 := Lib.hid (bgo B1.out hb2); clear hb2 R1 Q1 Z1 B1)
    | (refine ldQr (B := #[.int .i64 1, .string ByteArray.empty, .int .i64 0, .int .i64 0, .int .i64 0]) rfl rfl rfl Q2.out rfl rfl ?_)
    | (go_at_call 11; (with_reducible refine (HQ.out _).mono ?_); rintro e w3 ⟨rfl, hb3⟩; have R3 := Lib.hid (R2.out.go hb3); have Q3 := Lib.hid (Q2.out.go hb3); have Z3 := Lib.hid (Z2.out.go hb3); have B3 := Lib.hid (bgo B2.out hb3); clear hb3 R2 Q2 Z2 B2))
  have c0 := R3.out.cell (j := 0) (v := .int .i64 1) rfl
  have c1' := Q3.out.cell (j := 0) (v := .int .i64 1) rfl
  have lt1 := R3.out.lt
  have lt2 := Q3.out.lt
  have T3 := T0.out.go B3.out
  have c2' : w3.cell? ⟨0, 8, none⟩ = some (.bool true) := T3.2 1 1 _ _ rfl rfl
  have lt3 := T3.1
  go_region
  rename_i K hK
  clear c0 c1' c2'
  refine hK _ _ ?_
  clear hK
  refine wp_genW (fun w4 => RowAt w.heap.size #[.int .i64 1, .int .i64 0, .int .i64 0, .int .u64 0, .int .i64 7, .int .i64 1, .bool false, .int .i64 0, .int .i64 0, .int .u64 0, .slice a1 0 c1, .bool false, .int .i64 0, .int .u64 0, .slice a2 0 c2, .int .i64 0, .int .i64 0, .slice a3 0 c3, .bool false, .int .i64 0, .int .i64 0, .int .i64 0, .slice a4 0 c4, .bool false, .int .i64 0, .int .i64 0, .int .i64 0, .slice a5 0 c5, .bool false] w4 ∧ RowAt (w.heap.size + 1) #[.int .i64 1, .string ByteArray.empty, .int .i64 0, .int .i64 0, .int .i64 0] w4 ∧ RowAt (w.heap.size + 1 + 1) zcAn w4 ∧ Below w.heap.size w w4) ⟨by first | exact R3.out | exact R3.out.drew, by first | exact Q3.out | exact Q3.out.drew, by first | exact Z3.out | exact Z3.out.drew, by first | exact B3.out | exact below_drew B3.out⟩ ?_
  rintro w4 ⟨r4, q4, z4, hb4⟩
  have R4 := Lib.hid r4
  have Q4 := Lib.hid q4
  have Z4 := Lib.hid z4
  have B4 := Lib.hid hb4
  clear r4 q4 z4 hb4 R3 Q3 Z3 B3
  go_wp2_with (first
    | (refine ldSk (B := #[.int .i64 1, .int .i64 0, .int .i64 0, .int .u64 0, .int .i64 7, .int .i64 1, .bool false, .int .i64 0, .int .i64 0, .int .u64 0, .slice a1 0 c1, .bool false, .int .i64 0, .int .u64 0, .slice a2 0 c2, .int .i64 0, .int .i64 0, .slice a3 0 c3, .bool false, .int .i64 0, .int .i64 0, .int .i64 0, .slice a4 0 c4, .bool false, .int .i64 0, .int .i64 0, .int .i64 0, .slice a5 0 c5, .bool false]) rfl rfl rfl R4.out rfl (by kernel_rfl) ?_)
    | (refine ldQr (B := #[.int .i64 1, .string ByteArray.empty, .int .i64 0, .int .i64 0, .int .i64 0]) rfl rfl rfl Q4.out rfl rfl ?_)
    | (go_at_call 35; (with_reducible refine (HA.out _).mono ?_); rintro e w5 ⟨rfl, hb5⟩; have R5 := Lib.hid (R4.out.go hb5); have Z5 := Lib.hid (Z4.out.go hb5); have B5 := Lib.hid (bgo B4.out hb5); clear hb5 R4 Q4 Z4 B4)
    | (refine stAn rfl rfl rfl (RowAt.new w5 _ _) rfl rfl rfl rfl ?_; intro w6 r6 o6; have S6 := Lib.hid r6; have D6 := Lib.hid (Below.trans (b1 _) (o6.1 : Below w5.heap.size _ w6)); have R6 := Lib.hid (R5.out.go D6.out); have Z6 := Lib.hid (Z5.out.go D6.out); have B6 := Lib.hid (bgo B5.out D6.out); have L6 : Hid (w.heap.size + 1 + 1 < w5.heap.size) := Lib.hid Z5.out.lt; clear r6 o6 D6 R5 B5 Z5)
    | (refine ldSk (B := #[.int .i64 1, .int .i64 0, .int .i64 0, .int .u64 0, .int .i64 7, .int .i64 1, .bool false, .int .i64 0, .int .i64 0, .int .u64 0, .slice a1 0 c1, .bool false, .int .i64 0, .int .u64 0, .slice a2 0 c2, .int .i64 0, .int .i64 0, .slice a3 0 c3, .bool false, .int .i64 0, .int .i64 0, .int .i64 0, .slice a4 0 c4, .bool false, .int .i64 0, .int .i64 0, .int .i64 0, .slice a5 0 c5, .bool false]) rfl rfl rfl R6.out rfl (by kernel_rfl) ?_)
    | (go_at_call 36; (with_reducible refine (HS.out _).mono ?_); rintro e w7 ⟨rfl, hb7⟩; have S7 := Lib.hid (S6.out.go hb7); have Z7 := Lib.hid (Z6.out.go hb7); have B7 := Lib.hid (bgo B6.out hb7); clear hb7 R6 S6 Z6 B6)
    | (refine stcb (A' := #[.int .i64 7, .int .i64 0, .string ByteArray.empty, .slice none 0 0, .slice none 0 0, .bool false]) rfl rfl rfl S7.out rfl (show 5 < 6 by decide) rfl ?_; intro w8 r8 o8; have S8 := Lib.hid r8; have Z8 := Lib.hid (Z7.out.oth o8 (by have := L6.out; omega)); have B8 := Lib.hid (B7.out.trans (o8.1.mono (by have := L6.out; omega))); clear r8 o8 S7 Z7 B7)
    | (refine ldAn (B := #[.int .i64 7, .int .i64 0, .string ByteArray.empty, .slice none 0 0, .slice none 0 0, .bool false]) rfl rfl rfl S8.out rfl rfl ?_)
    | (refine stAn rfl rfl rfl Z8.out rfl rfl rfl rfl ?_; intro w9 r9 o9; have Z9 := Lib.hid r9; have B9 := Lib.hid (B8.out.trans (o9.1.mono (by omega))); clear r9 o9))
  exact ret_row2 Tryz.results15 rfl rfl rfl Z9.out Tryz.underlying51 rfl infAn ⟨rfl, B9.out⟩
set_option maxRecDepth 100000 in
set_option maxHeartbeats 2000000 in
theorem ask_5 (a1 : Option Addr) (c1 : Nat) (a2 : Option Addr) (c2 : Nat) (a3 : Option Addr) (c3 : Nat) (a4 : Option Addr) (c4 : Nat) (a5 : Option Addr) (c5 : Nat) (w : World) (h : RowsK ⟨1, 0, 0, 0, 7, 1, false, CM.none, LL.none, TP.none, FQ.none, RK.none⟩ (.slice a1 0 c1) (.slice a2 0 c2) (.slice a3 0 c3) (.slice a4 0 c4) (.slice a5 0 c5) w) (ht : SupT w) :
    Calls Tryz.prog 15 #[.agg #[.int .i64 1, .int .i64 0, .int .i64 0, .int .u64 0, .int .i64 7, .int .i64 1, .bool false, .int .i64 0, .int .i64 0, .int .u64 0, .slice a1 0 c1, .bool false, .int .i64 0, .int .u64 0, .slice a2 0 c2, .int .i64 0, .int .i64 0, .slice a3 0 c3, .bool false, .int .i64 0, .int .i64 0, .int .i64 0, .slice a4 0 c4, .bool false, .int .i64 0, .int .i64 0, .int .i64 0, .slice a5 0 c5, .bool false], .agg #[.int .i64 5, .string ByteArray.empty, .int .i64 0, .int .i64 0, .int .i64 0]] w fun e w' => e = .returned (.tuple #[.agg #[.int .i64 0, .int .i64 0, .string ByteArray.empty, .slice none 0 0, .slice none 0 0, .bool false], .int .i64 10]) ∧ Below w.heap.size w w' := by
  have HV : Hid (∀ w' : World, Below w.heap.size w w' → Calls Tryz.prog 34 #[.agg #[.int .i64 1, .int .i64 0, .int .i64 0, .int .u64 0, .int .i64 7, .int .i64 1, .bool false, .int .i64 0, .int .i64 0, .int .u64 0, .slice a1 0 c1, .bool false, .int .i64 0, .int .u64 0, .slice a2 0 c2, .int .i64 0, .int .i64 0, .slice a3 0 c3, .bool false, .int .i64 0, .int .i64 0, .int .i64 0, .slice a4 0 c4, .bool false, .int .i64 0, .int .i64 0, .int .i64 0, .slice a5 0 c5, .bool false]] w' fun e w2 => e = .returned (.int .i64 0) ∧ Below w'.heap.size w' w2) := Lib.hid (fun w' hb => by
    have := val_row ⟨1, 0, 0, 0, 7, 1, false, CM.none, LL.none, TP.none, FQ.none, RK.none⟩ a1 c1 a2 c2 a3 c3 a4 c4 a5 c5 w' wf_t7 (h.below hb)
    rw [val_t7] at this
    exact this)
  have HQ := Lib.hid (fun w => pqv_any 5 ByteArray.empty 0 0 0 w (by decide))
  rw [qr_t5] at HQ
  have HA := Lib.hid (fun w => ans_t a1 c1 a2 c2 a3 c3 a4 c4 a5 c5 w)
  have HS := Lib.hid (fun w => sat_t a1 c1 a2 c2 a3 c3 a4 c4 a5 c5 w)
  have T0 := Lib.hid ht
  clear h ht
  go_enter Tryz.func15, Tryz.ntmps15
  go_upto_region 1 with (fail)
  refine wp_genW (fun w1 => RowAt w.heap.size #[.int .i64 1, .int .i64 0, .int .i64 0, .int .u64 0, .int .i64 7, .int .i64 1, .bool false, .int .i64 0, .int .i64 0, .int .u64 0, .slice a1 0 c1, .bool false, .int .i64 0, .int .u64 0, .slice a2 0 c2, .int .i64 0, .int .i64 0, .slice a3 0 c3, .bool false, .int .i64 0, .int .i64 0, .int .i64 0, .slice a4 0 c4, .bool false, .int .i64 0, .int .i64 0, .int .i64 0, .slice a5 0 c5, .bool false] w1 ∧ RowAt (w.heap.size + 1) #[.int .i64 5, .string ByteArray.empty, .int .i64 0, .int .i64 0, .int .i64 0] w1 ∧ RowAt (w.heap.size + 1 + 1) zcAn w1 ∧ Below w.heap.size w w1) ⟨((RowAt.new _ _ _).al _).al _, (RowAt.new1 _ _ _ _).al _, RowAt.new2 _ _ _ _ _, b3 _ _ _⟩ ?_
  rintro w1 ⟨r1, r2, r3, hb⟩
  have R1 := Lib.hid r1
  have Q1 := Lib.hid r2
  have Z1 := Lib.hid r3
  have B1 := Lib.hid hb
  clear r1 r2 r3 hb
  go_upto_region 7 with (first
    | (refine ldSk (B := #[.int .i64 1, .int .i64 0, .int .i64 0, .int .u64 0, .int .i64 7, .int .i64 1, .bool false, .int .i64 0, .int .i64 0, .int .u64 0, .slice a1 0 c1, .bool false, .int .i64 0, .int .u64 0, .slice a2 0 c2, .int .i64 0, .int .i64 0, .slice a3 0 c3, .bool false, .int .i64 0, .int .i64 0, .int .i64 0, .slice a4 0 c4, .bool false, .int .i64 0, .int .i64 0, .int .i64 0, .slice a5 0 c5, .bool false]) rfl rfl rfl R1.out rfl (by kernel_rfl) ?_)
    | (go_at_call 34; (with_reducible refine (HV.out _ B1.out).mono ?_); rintro e w2 ⟨rfl, hb2⟩; have R2 := Lib.hid (R1.out.go hb2); have Q2 := Lib.hid (Q1.out.go hb2); have Z2 := Lib.hid (Z1.out.go hb2); have B2 := Lib.hid (bgo B1.out hb2); clear hb2 R1 Q1 Z1 B1)
    | (refine ldQr (B := #[.int .i64 5, .string ByteArray.empty, .int .i64 0, .int .i64 0, .int .i64 0]) rfl rfl rfl Q2.out rfl rfl ?_)
    | (go_at_call 11; (with_reducible refine (HQ.out _).mono ?_); rintro e w3 ⟨rfl, hb3⟩; have R3 := Lib.hid (R2.out.go hb3); have Q3 := Lib.hid (Q2.out.go hb3); have Z3 := Lib.hid (Z2.out.go hb3); have B3 := Lib.hid (bgo B2.out hb3); clear hb3 R2 Q2 Z2 B2))
  have c0 := R3.out.cell (j := 0) (v := .int .i64 1) rfl
  have c1' := Q3.out.cell (j := 0) (v := .int .i64 5) rfl
  have lt1 := R3.out.lt
  have lt2 := Q3.out.lt
  have T3 := T0.out.go B3.out
  have c2' : w3.cell? ⟨0, 36, none⟩ = some (.bool false) := T3.2 5 1 _ _ rfl rfl
  have lt3 := T3.1
  go_region
  rename_i K hK
  clear c0 c1' c2'
  refine hK _ _ ?_
  clear hK
  refine wp_genW (fun w4 => RowAt (w.heap.size + 1 + 1) zcAn w4 ∧ Below w.heap.size w w4) ⟨by first | exact Z3.out | exact Z3.out.drew, by first | exact B3.out | exact below_drew B3.out⟩ ?_
  rintro w4 ⟨z4, hb4⟩
  have Z4 := Lib.hid z4
  have B4 := Lib.hid hb4
  clear z4 hb4
  go_wp2_with (refine stAn rfl rfl rfl Z4.out rfl rfl rfl rfl ?_; intro w5 r5 o5; have Z5 := Lib.hid r5; have B5 := Lib.hid (B4.out.trans (o5.1.mono (by omega))); clear r5 o5)
  exact ret_row2 Tryz.results15 rfl rfl rfl Z5.out Tryz.underlying51 rfl infAn ⟨rfl, B5.out⟩
end Go.Proofs.YtjibbnknliamkaaGreatDoor
namespace Go.Proofs.YtjibbnknliamkaaGreatDoor
open Go.RowKit
set_option linter.unusedVariables false
set_option linter.unusedSimpArgs false
set_option maxRecDepth 100000 in
set_option maxHeartbeats 2000000 in
theorem known13_any (w : World) (ht : SupT w) :
    Calls Tryz.prog 9 #[] w fun e w' => e = .returned (.bool true) ∧ Below w.heap.size w w' := by
  have HN := Lib.hid (fun w => rn_any 1 0 0 0 w i64_z i64_z)
  rw [nu_tally, show prmE 1 0 0 0 = 0 by decide] at HN
  have HI : Hid (∀ (a1 : Option Addr) (c1 : Nat) (a2 : Option Addr) (c2 : Nat) (a3 : Option Addr) (c3 : Nat) (a4 : Option Addr) (c4 : Nat) (a5 : Option Addr) (c5 : Nat) (w : World), RowsK ⟨1, 0, 0, 0, 0, 0, false, CM.none, LL.none, TP.none, FQ.none, RK.none⟩ (.slice a1 0 c1) (.slice a2 0 c2) (.slice a3 0 c3) (.slice a4 0 c4) (.slice a5 0 c5) w → Calls Tryz.prog 25 #[.agg #[.int .i64 1, .int .i64 0, .int .i64 0, .int .u64 0, .int .i64 0, .int .i64 0, .bool false, .int .i64 0, .int .i64 0, .int .u64 0, .slice a1 0 c1, .bool false, .int .i64 0, .int .u64 0, .slice a2 0 c2, .int .i64 0, .int .i64 0, .slice a3 0 c3, .bool false, .int .i64 0, .int .i64 0, .int .i64 0, .slice a4 0 c4, .bool false, .int .i64 0, .int .i64 0, .int .i64 0, .slice a5 0 c5, .bool false], .agg #[.string ⟨#[97]⟩, .int .i64 7], .slice none 0 0, .int .i64 0] w fun e w' => e = .returned (.tuple #[.agg #[.int .i64 1, .int .i64 0, .int .i64 0, .int .u64 0, .int .i64 7, .int .i64 1, .bool false, .int .i64 0, .int .i64 0, .int .u64 0, .slice a1 0 c1, .bool false, .int .i64 0, .int .u64 0, .slice a2 0 c2, .int .i64 0, .int .i64 0, .slice a3 0 c3, .bool false, .int .i64 0, .int .i64 0, .int .i64 0, .slice a4 0 c4, .bool false, .int .i64 0, .int .i64 0, .int .i64 0, .slice a5 0 c5, .bool false], .int .i64 0, .int .i64 0]) ∧ Below w.heap.size w w') := Lib.hid (fun a1 c1 a2 c2 a3 c3 a4 c4 a5 c5 w h => rit_t a1 c1 a2 c2 a3 c3 a4 c4 a5 c5 w h)
  have HA : Hid (∀ (a1 : Option Addr) (c1 : Nat) (a2 : Option Addr) (c2 : Nat) (a3 : Option Addr) (c3 : Nat) (a4 : Option Addr) (c4 : Nat) (a5 : Option Addr) (c5 : Nat) (w : World), RowsK ⟨1, 0, 0, 0, 7, 1, false, CM.none, LL.none, TP.none, FQ.none, RK.none⟩ (.slice a1 0 c1) (.slice a2 0 c2) (.slice a3 0 c3) (.slice a4 0 c4) (.slice a5 0 c5) w → SupT w → Calls Tryz.prog 15 #[.agg #[.int .i64 1, .int .i64 0, .int .i64 0, .int .u64 0, .int .i64 7, .int .i64 1, .bool false, .int .i64 0, .int .i64 0, .int .u64 0, .slice a1 0 c1, .bool false, .int .i64 0, .int .u64 0, .slice a2 0 c2, .int .i64 0, .int .i64 0, .slice a3 0 c3, .bool false, .int .i64 0, .int .i64 0, .int .i64 0, .slice a4 0 c4, .bool false, .int .i64 0, .int .i64 0, .int .i64 0, .slice a5 0 c5, .bool false], .agg #[.int .i64 1, .string ⟨#[]⟩, .int .i64 0, .int .i64 0, .int .i64 0]] w fun e w' => e = .returned (.tuple #[.agg #[.int .i64 7, .int .i64 0, .string ⟨#[]⟩, .slice none 0 0, .slice none 0 0, .bool false], .int .i64 0]) ∧ Below w.heap.size w w') := Lib.hid (fun a1 c1 a2 c2 a3 c3 a4 c4 a5 c5 w h ht => ask_1 a1 c1 a2 c2 a3 c3 a4 c4 a5 c5 w h ht)
  have HC : Hid (∀ (a1 : Option Addr) (c1 : Nat) (a2 : Option Addr) (c2 : Nat) (a3 : Option Addr) (c3 : Nat) (a4 : Option Addr) (c4 : Nat) (a5 : Option Addr) (c5 : Nat) (w : World), RowsK ⟨1, 0, 0, 0, 7, 1, false, CM.none, LL.none, TP.none, FQ.none, RK.none⟩ (.slice a1 0 c1) (.slice a2 0 c2) (.slice a3 0 c3) (.slice a4 0 c4) (.slice a5 0 c5) w → SupT w → Calls Tryz.prog 15 #[.agg #[.int .i64 1, .int .i64 0, .int .i64 0, .int .u64 0, .int .i64 7, .int .i64 1, .bool false, .int .i64 0, .int .i64 0, .int .u64 0, .slice a1 0 c1, .bool false, .int .i64 0, .int .u64 0, .slice a2 0 c2, .int .i64 0, .int .i64 0, .slice a3 0 c3, .bool false, .int .i64 0, .int .i64 0, .int .i64 0, .slice a4 0 c4, .bool false, .int .i64 0, .int .i64 0, .int .i64 0, .slice a5 0 c5, .bool false], .agg #[.int .i64 5, .string ⟨#[]⟩, .int .i64 0, .int .i64 0, .int .i64 0]] w fun e w' => e = .returned (.tuple #[.agg #[.int .i64 0, .int .i64 0, .string ⟨#[]⟩, .slice none 0 0, .slice none 0 0, .bool false], .int .i64 10]) ∧ Below w.heap.size w w') := Lib.hid (fun a1 c1 a2 c2 a3 c3 a4 c4 a5 c5 w h ht => ask_5 a1 c1 a2 c2 a3 c3 a4 c4 a5 c5 w h ht)
  have T0 := Lib.hid ht
  clear ht
  go_enter Tryz.func9, Tryz.ntmps9
  go_wp2_with (first
    | (go_at_call 24; (with_reducible refine (HN.out _).mono ?_); rintro e w1 ⟨v, rfl, ho, hb1⟩; obtain ⟨a1, c1, a2, c2, a3, c3, a4, c4, a5, c5, rfl, hr⟩ := ho.rd.run; have O1 := Lib.hid hr; have B1 := Lib.hid hb1; clear hb1 hr ho)
    | (refine stWh rfl rfl rfl (RowAt.new w1 _ _) rfl rfl rfl rfl ?_; intro w2 r2 o2; have S2 := Lib.hid r2; have D2 := Lib.hid (Below.trans (b1 _) (o2.1 : Below w1.heap.size _ w2)); have B2 := Lib.hid (bgo B1.out D2.out); have O2 : Hid (RowsK ⟨1, 0, 0, 0, 0, 0, false, CM.none, LL.none, TP.none, FQ.none, RK.none⟩ (.slice a1 0 c1) (.slice a2 0 c2) (.slice a3 0 c3) (.slice a4 0 c4) (.slice a5 0 c5) w2) := Lib.hid (O1.out.below D2.out); clear r2 o2 B1 O1 D2)
    | (refine ldSk (B := #[.int .i64 1, .int .i64 0, .int .i64 0, .int .u64 0, .int .i64 0, .int .i64 0, .bool false, .int .i64 0, .int .i64 0, .int .u64 0, .slice a1 0 c1, .bool false, .int .i64 0, .int .u64 0, .slice a2 0 c2, .int .i64 0, .int .i64 0, .slice a3 0 c3, .bool false, .int .i64 0, .int .i64 0, .int .i64 0, .slice a4 0 c4, .bool false, .int .i64 0, .int .i64 0, .int .i64 0, .slice a5 0 c5, .bool false]) rfl rfl rfl S2.out rfl (by kernel_rfl) ?_)
    | (go_at_call 25; (with_reducible refine (HI.out a1 c1 a2 c2 a3 c3 a4 c4 a5 c5 _ O2.out).mono ?_); rintro e w3 ⟨rfl, hb3⟩; have B3 := Lib.hid (bgo B2.out hb3); have O3 : Hid (RowsK ⟨1, 0, 0, 0, 7, 1, false, CM.none, LL.none, TP.none, FQ.none, RK.none⟩ (.slice a1 0 c1) (.slice a2 0 c2) (.slice a3 0 c3) (.slice a4 0 c4) (.slice a5 0 c5) w3) := Lib.hid (O2.out.below hb3); clear hb3 B2 O2 S2)
    | (refine stWh rfl rfl rfl (RowAt.new w3 _ _) rfl rfl rfl rfl ?_; intro w4 r4 o4; have S4 := Lib.hid r4; have D4 := Lib.hid (Below.trans (b1 _) (o4.1 : Below w3.heap.size _ w4)); have B4 := Lib.hid (bgo B3.out D4.out); have O4 : Hid (RowsK ⟨1, 0, 0, 0, 7, 1, false, CM.none, LL.none, TP.none, FQ.none, RK.none⟩ (.slice a1 0 c1) (.slice a2 0 c2) (.slice a3 0 c3) (.slice a4 0 c4) (.slice a5 0 c5) w4) := Lib.hid (O3.out.below D4.out); have T4 := Lib.hid (T0.out.go B4.out); clear r4 o4 B3 O3 D4)
    | (refine ldSk (B := #[.int .i64 1, .int .i64 0, .int .i64 0, .int .u64 0, .int .i64 7, .int .i64 1, .bool false, .int .i64 0, .int .i64 0, .int .u64 0, .slice a1 0 c1, .bool false, .int .i64 0, .int .u64 0, .slice a2 0 c2, .int .i64 0, .int .i64 0, .slice a3 0 c3, .bool false, .int .i64 0, .int .i64 0, .int .i64 0, .slice a4 0 c4, .bool false, .int .i64 0, .int .i64 0, .int .i64 0, .slice a5 0 c5, .bool false]) rfl rfl rfl S4.out rfl (by kernel_rfl) ?_)
    | (go_at_call 15; (with_reducible refine (HA.out a1 c1 a2 c2 a3 c3 a4 c4 a5 c5 _ O4.out T4.out).mono ?_); rintro e w5 ⟨rfl, hb5⟩; have B5 := Lib.hid (bgo B4.out hb5); have S5 := Lib.hid (S4.out.go hb5); have O5 : Hid (RowsK ⟨1, 0, 0, 0, 7, 1, false, CM.none, LL.none, TP.none, FQ.none, RK.none⟩ (.slice a1 0 c1) (.slice a2 0 c2) (.slice a3 0 c3) (.slice a4 0 c4) (.slice a5 0 c5) w5) := Lib.hid (O4.out.below hb5); clear hb5 B4 O4 S4 T4)
    | (refine stAn rfl rfl rfl (RowAt.new w5 _ _) rfl rfl rfl rfl ?_; intro w6 r6 o6; have A6 := Lib.hid r6; have D6 := Lib.hid (Below.trans (b1 _) (o6.1 : Below w5.heap.size _ w6)); have S6 := Lib.hid (S5.out.go D6.out); have B6 := Lib.hid (bgo B5.out D6.out); have O6 : Hid (RowsK ⟨1, 0, 0, 0, 7, 1, false, CM.none, LL.none, TP.none, FQ.none, RK.none⟩ (.slice a1 0 c1) (.slice a2 0 c2) (.slice a3 0 c3) (.slice a4 0 c4) (.slice a5 0 c5) w6) := Lib.hid (O5.out.below D6.out); have T6 := Lib.hid (T0.out.go B6.out); clear r6 o6 B5 O5 S5 D6)
    | (refine ldSk (B := #[.int .i64 1, .int .i64 0, .int .i64 0, .int .u64 0, .int .i64 7, .int .i64 1, .bool false, .int .i64 0, .int .i64 0, .int .u64 0, .slice a1 0 c1, .bool false, .int .i64 0, .int .u64 0, .slice a2 0 c2, .int .i64 0, .int .i64 0, .slice a3 0 c3, .bool false, .int .i64 0, .int .i64 0, .int .i64 0, .slice a4 0 c4, .bool false, .int .i64 0, .int .i64 0, .int .i64 0, .slice a5 0 c5, .bool false]) rfl rfl rfl S6.out rfl (by kernel_rfl) ?_)
    | (go_at_call 15; (with_reducible refine (HC.out a1 c1 a2 c2 a3 c3 a4 c4 a5 c5 _ O6.out T6.out).mono ?_); rintro e w7 ⟨rfl, hb7⟩; have B7 := Lib.hid (bgo B6.out hb7); have A7 := Lib.hid (A6.out.go hb7); clear hb7 B6 O6 S6 T6 A6)
    | (refine stAn rfl rfl rfl (RowAt.new w7 _ _) rfl rfl rfl rfl ?_; intro w8 r8 o8; have D8 := Lib.hid (Below.trans (b1 _) (o8.1 : Below w7.heap.size _ w8)); have A8 := Lib.hid (A7.out.go D8.out); have B8 := Lib.hid (bgo B7.out D8.out); clear r8 o8 B7 A7 D8)
    | (refine wpList_if (p := true) (v := .int .i64 7) rfl (fun _ => run_cell rfl rfl A8.out Tryz.underlying3 rfl rfl) ?_))
  go_ret
  exact ⟨rfl, B8.out⟩
end Go.Proofs.YtjibbnknliamkaaGreatDoor
