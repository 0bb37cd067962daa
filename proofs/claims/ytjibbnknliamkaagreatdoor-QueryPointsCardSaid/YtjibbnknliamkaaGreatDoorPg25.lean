/- RNw: in one text. -/
import Derived.Test.YtjibbnknliamkaaGreatDoorPg20
import Derived.Test.YtjibbnknliamkaaGreatDoorPg21
import Derived.Test.YtjibbnknliamkaaGreatDoorPg15
import Derived.Test.YtjibbnknliamkaaGreatDoorPg23
import Derived.Test.YtjibbnknliamkaaGreatDoorPg08
import Derived.Test.YtjibbnknliamkaaGreatDoorPg24
namespace Go.Proofs.YtjibbnknliamkaaGreatDoor
open Go.RowKit
set_option linter.unusedVariables false
set_option linter.unusedSimpArgs false
set_option maxRecDepth 100000 in
set_option maxHeartbeats 2000000 in
theorem rn_k1 (S D x : Int) (w : World) (hS : I64 S) (hD : I64 D) (hE : prmE 1 S D x = 0) :
    Calls Tryz.prog 24 #[.agg #[.int .i64 1, .int .i64 S, .int .i64 D, .int .u64 x]] w fun e w' => ∃ v, e = .returned (.tuple #[v, .int .i64 0]) ∧ OwnK w.heap.size ⟨1, S, D, x, 0, 0, false, CM.none, LL.none, TP.none, FQ.none, RK.none⟩ v w' ∧ Below w.heap.size w w' := by
  have HV := Lib.hid (fun w => rvp_any 1 S D x w hS)
  rw [hE] at HV
  clear hS hD hE
  go_enter Tryz.func24, Tryz.ntmps24
  go_upto_region 1 with (fail)
  refine wp_genW (fun w1 => RowAt w.heap.size #[.int .i64 1, .int .i64 S, .int .i64 D, .int .u64 x] w1 ∧ RowAt (w.heap.size + 1) zcSk w1 ∧ Below w.heap.size w w1 ∧ w.heap.size + 2 ≤ w1.heap.size) ⟨(RowAt.new _ _ _).al _, RowAt.new1 _ _ _ _, b2 _ _, by simp⟩ ?_
  rintro w1 ⟨r1, r2, hb, hl⟩
  have R1 := Lib.hid r1
  have Q1 := Lib.hid r2
  have B1 := Lib.hid hb
  have L1 := Lib.hid hl
  clear r1 r2 hb hl
  go_wp2_with (first
    | (refine ldPm (B := #[.int .i64 1, .int .i64 S, .int .i64 D, .int .u64 x]) rfl rfl rfl R1.out rfl (by kernel_rfl) ?_)
    | (go_at_call 48; (with_reducible refine (HV.out _).mono ?_); rintro e w2 ⟨rfl, hb2⟩; have R2 := Lib.hid (R1.out.go hb2); have Q2 := Lib.hid (Q1.out.go hb2); have B2 := Lib.hid (bgo B1.out hb2); have L2 := Lib.hid (Nat.le_trans L1.out hb2.size); clear hb2 R1 Q1 B1)
    | (refine ldPm (B := #[.int .i64 1, .int .i64 S, .int .i64 D, .int .u64 x]) rfl rfl rfl R2.out rfl (by kernel_rfl) ?_)
    | (refine stWh rfl rfl rfl (RowAt.new w2 _ _) rfl rfl rfl rfl ?_; intro w3 r3 o3; have S3 := Lib.hid r3; have O3 := Lib.hid (Below.trans (b1 _) (o3.1 : Below w2.heap.size _ w3)); have R3 := Lib.hid (R2.out.go O3.out); have Q3 := Lib.hid (Q2.out.go O3.out); have B3 := Lib.hid (bgo B2.out O3.out); have L3 := Lib.hid (Nat.le_trans L2.out O3.out.size); have G3 : Hid (w2.heap.size < w3.heap.size) := Lib.hid (by have := r3.lt; exact this); clear r3 o3 R2 Q2 B2)
    | (refine ldi (v := .int .i64 1) rfl rfl rfl R3.out rfl ?_)
    | (refine ldi (v := .int .i64 S) rfl rfl rfl R3.out rfl ?_)
    | (refine ldi (v := .int .i64 D) rfl rfl rfl R3.out rfl ?_)
    | (refine ldu (v := .int .u64 x) rfl rfl rfl R3.out rfl ?_)
    | (refine ldSk (B := #[.int .i64 1, .int .i64 S, .int .i64 D, .int .u64 x, .int .i64 0, .int .i64 0, .bool false, .int .i64 0, .int .i64 0, .int .u64 0, .slice none 0 0, .bool false, .int .i64 0, .int .u64 0, .slice none 0 0, .int .i64 0, .int .i64 0, .slice none 0 0, .bool false, .int .i64 0, .int .i64 0, .int .i64 0, .slice none 0 0, .bool false, .int .i64 0, .int .i64 0, .int .i64 0, .slice none 0 0, .bool false]) rfl rfl rfl S3.out rfl (by kernel_rfl) ?_)
    | (refine stWh rfl rfl rfl Q3.out rfl rfl rfl rfl ?_; intro w5 r5 o5; have Q5 := Lib.hid r5; have B5 := Lib.hid (B3.out.trans (o5.1.mono (Nat.le_succ _))); clear r5 o5))
  exact ret_row2 Tryz.results24 rfl rfl rfl Q5.out Tryz.underlying48 rfl infSk ⟨_, rfl, ⟨_, _, _, _, _, _, _, _, _, _, _, _, _, _, _, rfl, OwnI.empty _ _, OwnI.empty _ _, OwnE.empty _ _, OwnE.empty _ _, RdB.none_ _ _⟩, B5.out⟩
set_option maxRecDepth 100000 in
set_option maxHeartbeats 2000000 in
theorem rn_k2 (S D x : Int) (w : World) (hS : I64 S) (hD : I64 D) (hE : prmE 2 S D x = 0) :
    Calls Tryz.prog 24 #[.agg #[.int .i64 2, .int .i64 S, .int .i64 D, .int .u64 x]] w fun e w' => ∃ v, e = .returned (.tuple #[v, .int .i64 0]) ∧ OwnK w.heap.size ⟨2, S, D, x, 0, 0, false, newC D S x, LL.none, TP.none, FQ.none, RK.none⟩ v w' ∧ Below w.heap.size w w' := by
  have HV := Lib.hid (fun w => rvp_any 2 S D x w hS)
  rw [hE] at HV
  have HN := Lib.hid (fun w => rcnew_any D S x w hD.1 hD.2 hS.1 hS.2)
  generalize newC D S x = q at *
  generalize newE D S = E2 at *
  clear hS hD hE
  go_enter Tryz.func24, Tryz.ntmps24
  go_upto_region 1 with (fail)
  refine wp_genW (fun w1 => RowAt w.heap.size #[.int .i64 2, .int .i64 S, .int .i64 D, .int .u64 x] w1 ∧ RowAt (w.heap.size + 1) zcSk w1 ∧ Below w.heap.size w w1 ∧ w.heap.size + 2 ≤ w1.heap.size) ⟨(RowAt.new _ _ _).al _, RowAt.new1 _ _ _ _, b2 _ _, by simp⟩ ?_
  rintro w1 ⟨r1, r2, hb, hl⟩
  have R1 := Lib.hid r1
  have Q1 := Lib.hid r2
  have B1 := Lib.hid hb
  have L1 := Lib.hid hl
  clear r1 r2 hb hl
  go_wp2_with (first
    | (refine ldPm (B := #[.int .i64 2, .int .i64 S, .int .i64 D, .int .u64 x]) rfl rfl rfl R1.out rfl (by kernel_rfl) ?_)
    | (go_at_call 48; (with_reducible refine (HV.out _).mono ?_); rintro e w2 ⟨rfl, hb2⟩; have R2 := Lib.hid (R1.out.go hb2); have Q2 := Lib.hid (Q1.out.go hb2); have B2 := Lib.hid (bgo B1.out hb2); have L2 := Lib.hid (Nat.le_trans L1.out hb2.size); clear hb2 R1 Q1 B1)
    | (refine ldPm (B := #[.int .i64 2, .int .i64 S, .int .i64 D, .int .u64 x]) rfl rfl rfl R2.out rfl (by kernel_rfl) ?_)
    | (refine stWh rfl rfl rfl (RowAt.new w2 _ _) rfl rfl rfl rfl ?_; intro w3 r3 o3; have S3 := Lib.hid r3; have O3 := Lib.hid (Below.trans (b1 _) (o3.1 : Below w2.heap.size _ w3)); have R3 := Lib.hid (R2.out.go O3.out); have Q3 := Lib.hid (Q2.out.go O3.out); have B3 := Lib.hid (bgo B2.out O3.out); have L3 := Lib.hid (Nat.le_trans L2.out O3.out.size); have G3 : Hid (w2.heap.size < w3.heap.size) := Lib.hid (by have := r3.lt; exact this); clear r3 o3 R2 Q2 B2)
    | (refine ldi (v := .int .i64 2) rfl rfl rfl R3.out rfl ?_)
    | (refine ldi (v := .int .i64 S) rfl rfl rfl R3.out rfl ?_)
    | (refine ldi (v := .int .i64 D) rfl rfl rfl R3.out rfl ?_)
    | (refine ldu (v := .int .u64 x) rfl rfl rfl R3.out rfl ?_)
    | (go_at_call 49; (with_reducible refine (HN.out _).mono ?_); rintro e w4 ⟨v, rfl, ⟨a, n, cp, rfl, ho⟩, hb4⟩; have O4 := Lib.hid ho; have S4 := Lib.hid (S3.out.go hb4); have Q4 := Lib.hid (Q3.out.go hb4); have B4 := Lib.hid (bgo B3.out hb4); have L4 := Lib.hid (Nat.le_trans L3.out hb4.size); clear ho hb4 Q3 B3 S3)
    | (refine stCm (A' := #[.int .i64 2, .int .i64 S, .int .i64 D, .int .u64 x, .int .i64 0, .int .i64 0, .bool false, .int .i64 q.D, .int .i64 q.S, .int .u64 q.x, .slice a n cp, .bool q.s, .int .i64 0, .int .u64 0, .slice none 0 0, .int .i64 0, .int .i64 0, .slice none 0 0, .bool false, .int .i64 0, .int .i64 0, .int .i64 0, .slice none 0 0, .bool false, .int .i64 0, .int .i64 0, .int .i64 0, .slice none 0 0, .bool false]) rfl rfl rfl S4.out rfl rfl (all_one rfl) (show 7 + 5 ≤ 29 by decide) (by kernel_rfl) ?_; intro w6 r6 o6; have O6 := Lib.hid (O4.out.oth o6 G3.out); have S6 := Lib.hid r6; have Q6 := Lib.hid (Q4.out.oth o6 (by have := L2.out; omega)); have B6 := Lib.hid (B4.out.trans (o6.1.mono (Nat.le_trans (by omega) L2.out))); clear r6 o6 Q4 B4 L4 O4 S4)
    | (refine ldSk (B := #[.int .i64 2, .int .i64 S, .int .i64 D, .int .u64 x, .int .i64 0, .int .i64 0, .bool false, .int .i64 q.D, .int .i64 q.S, .int .u64 q.x, .slice a n cp, .bool q.s, .int .i64 0, .int .u64 0, .slice none 0 0, .int .i64 0, .int .i64 0, .slice none 0 0, .bool false, .int .i64 0, .int .i64 0, .int .i64 0, .slice none 0 0, .bool false, .int .i64 0, .int .i64 0, .int .i64 0, .slice none 0 0, .bool false]) rfl rfl rfl S6.out rfl (by kernel_rfl) ?_)
    | (refine stWh rfl rfl rfl Q6.out rfl rfl rfl rfl ?_; intro w5 r5 o5; have Q5 := Lib.hid r5; have B5 := Lib.hid (B6.out.trans (o5.1.mono (Nat.le_succ _))); have O5 := Lib.hid (O6.out.oth o5 (by have := L3.out; omega)); clear r5 o5))
  exact ret_row2 Tryz.results24 rfl rfl rfl Q5.out Tryz.underlying48 rfl infSk ⟨_, rfl, ⟨_, _, _, _, _, _, _, _, _, _, _, _, _, _, _, rfl, O5.out.mono (by have := L3.out; omega), OwnI.empty _ _, OwnE.empty _ _, OwnE.empty _ _, RdB.none_ _ _⟩, B5.out⟩
set_option maxRecDepth 100000 in
set_option maxHeartbeats 2000000 in
theorem rn_k3 (S D x : Int) (w : World) (hS : I64 S) (hD : I64 D) (hE : prmE 3 S D x = 0) :
    Calls Tryz.prog 24 #[.agg #[.int .i64 3, .int .i64 S, .int .i64 D, .int .u64 x]] w fun e w' => ∃ v, e = .returned (.tuple #[v, .int .i64 0]) ∧ OwnK w.heap.size ⟨3, S, D, x, 0, 0, false, CM.none, newL S x, TP.none, FQ.none, RK.none⟩ v w' ∧ Below w.heap.size w w' := by
  have HV := Lib.hid (fun w => rvp_any 3 S D x w hS)
  rw [hE] at HV
  have HN := Lib.hid (fun w => rlnew_any S x w)
  generalize newL S x = q at *
  generalize newLE S = E2 at *
  clear hS hD hE
  go_enter Tryz.func24, Tryz.ntmps24
  go_upto_region 1 with (fail)
  refine wp_genW (fun w1 => RowAt w.heap.size #[.int .i64 3, .int .i64 S, .int .i64 D, .int .u64 x] w1 ∧ RowAt (w.heap.size + 1) zcSk w1 ∧ Below w.heap.size w w1 ∧ w.heap.size + 2 ≤ w1.heap.size) ⟨(RowAt.new _ _ _).al _, RowAt.new1 _ _ _ _, b2 _ _, by simp⟩ ?_
  rintro w1 ⟨r1, r2, hb, hl⟩
  have R1 := Lib.hid r1
  have Q1 := Lib.hid r2
  have B1 := Lib.hid hb
  have L1 := Lib.hid hl
  clear r1 r2 hb hl
  go_wp2_with (first
    | (refine ldPm (B := #[.int .i64 3, .int .i64 S, .int .i64 D, .int .u64 x]) rfl rfl rfl R1.out rfl (by kernel_rfl) ?_)
    | (go_at_call 48; (with_reducible refine (HV.out _).mono ?_); rintro e w2 ⟨rfl, hb2⟩; have R2 := Lib.hid (R1.out.go hb2); have Q2 := Lib.hid (Q1.out.go hb2); have B2 := Lib.hid (bgo B1.out hb2); have L2 := Lib.hid (Nat.le_trans L1.out hb2.size); clear hb2 R1 Q1 B1)
    | (refine ldPm (B := #[.int .i64 3, .int .i64 S, .int .i64 D, .int .u64 x]) rfl rfl rfl R2.out rfl (by kernel_rfl) ?_)
    | (refine stWh rfl rfl rfl (RowAt.new w2 _ _) rfl rfl rfl rfl ?_; intro w3 r3 o3; have S3 := Lib.hid r3; have O3 := Lib.hid (Below.trans (b1 _) (o3.1 : Below w2.heap.size _ w3)); have R3 := Lib.hid (R2.out.go O3.out); have Q3 := Lib.hid (Q2.out.go O3.out); have B3 := Lib.hid (bgo B2.out O3.out); have L3 := Lib.hid (Nat.le_trans L2.out O3.out.size); have G3 : Hid (w2.heap.size < w3.heap.size) := Lib.hid (by have := r3.lt; exact this); clear r3 o3 R2 Q2 B2)
    | (refine ldi (v := .int .i64 3) rfl rfl rfl R3.out rfl ?_)
    | (refine ldi (v := .int .i64 S) rfl rfl rfl R3.out rfl ?_)
    | (refine ldi (v := .int .i64 D) rfl rfl rfl R3.out rfl ?_)
    | (refine ldu (v := .int .u64 x) rfl rfl rfl R3.out rfl ?_)
    | (go_at_call 50; (with_reducible refine (HN.out _).mono ?_); rintro e w4 ⟨v, rfl, ⟨a, n, cp, rfl, ho⟩, hb4⟩; have O4 := Lib.hid ho; have S4 := Lib.hid (S3.out.go hb4); have Q4 := Lib.hid (Q3.out.go hb4); have B4 := Lib.hid (bgo B3.out hb4); have L4 := Lib.hid (Nat.le_trans L3.out hb4.size); clear ho hb4 Q3 B3 S3)
    | (refine stLl (A' := #[.int .i64 3, .int .i64 S, .int .i64 D, .int .u64 x, .int .i64 0, .int .i64 0, .bool false, .int .i64 0, .int .i64 0, .int .u64 0, .slice none 0 0, .bool false, .int .i64 q.P, .int .u64 q.x, .slice a n cp, .int .i64 0, .int .i64 0, .slice none 0 0, .bool false, .int .i64 0, .int .i64 0, .int .i64 0, .slice none 0 0, .bool false, .int .i64 0, .int .i64 0, .int .i64 0, .slice none 0 0, .bool false]) rfl rfl rfl S4.out rfl rfl (all_one rfl) (show 12 + 3 ≤ 29 by decide) (by kernel_rfl) ?_; intro w6 r6 o6; have O6 := Lib.hid (O4.out.oth o6 G3.out); have S6 := Lib.hid r6; have Q6 := Lib.hid (Q4.out.oth o6 (by have := L2.out; omega)); have B6 := Lib.hid (B4.out.trans (o6.1.mono (Nat.le_trans (by omega) L2.out))); clear r6 o6 Q4 B4 L4 O4 S4)
    | (refine ldSk (B := #[.int .i64 3, .int .i64 S, .int .i64 D, .int .u64 x, .int .i64 0, .int .i64 0, .bool false, .int .i64 0, .int .i64 0, .int .u64 0, .slice none 0 0, .bool false, .int .i64 q.P, .int .u64 q.x, .slice a n cp, .int .i64 0, .int .i64 0, .slice none 0 0, .bool false, .int .i64 0, .int .i64 0, .int .i64 0, .slice none 0 0, .bool false, .int .i64 0, .int .i64 0, .int .i64 0, .slice none 0 0, .bool false]) rfl rfl rfl S6.out rfl (by kernel_rfl) ?_)
    | (refine stWh rfl rfl rfl Q6.out rfl rfl rfl rfl ?_; intro w5 r5 o5; have Q5 := Lib.hid r5; have B5 := Lib.hid (B6.out.trans (o5.1.mono (Nat.le_succ _))); have O5 := Lib.hid (O6.out.oth o5 (by have := L3.out; omega)); clear r5 o5))
  exact ret_row2 Tryz.results24 rfl rfl rfl Q5.out Tryz.underlying48 rfl infSk ⟨_, rfl, ⟨_, _, _, _, _, _, _, _, _, _, _, _, _, _, _, rfl, OwnI.empty _ _, O5.out.mono (by have := L3.out; omega), OwnE.empty _ _, OwnE.empty _ _, RdB.none_ _ _⟩, B5.out⟩
set_option maxRecDepth 100000 in
set_option maxHeartbeats 2000000 in
theorem rn_k4 (S D x : Int) (w : World) (hS : I64 S) (hD : I64 D) (hE : prmE 4 S D x = 0) :
    Calls Tryz.prog 24 #[.agg #[.int .i64 4, .int .i64 S, .int .i64 D, .int .u64 x]] w fun e w' => ∃ v, e = .returned (.tuple #[v, .int .i64 0]) ∧ OwnK w.heap.size ⟨4, S, D, x, 0, 0, false, CM.none, LL.none, newT S, FQ.none, RK.none⟩ v w' ∧ Below w.heap.size w w' := by
  have HV := Lib.hid (fun w => rvp_any 4 S D x w hS)
  rw [hE] at HV
  have HN := Lib.hid (fun w => rnew_any S w hS.1 hS.2)
  generalize newT S = q at *
  generalize newTE S = E2 at *
  clear hS hD hE
  go_enter Tryz.func24, Tryz.ntmps24
  go_upto_region 1 with (fail)
  refine wp_genW (fun w1 => RowAt w.heap.size #[.int .i64 4, .int .i64 S, .int .i64 D, .int .u64 x] w1 ∧ RowAt (w.heap.size + 1) zcSk w1 ∧ Below w.heap.size w w1 ∧ w.heap.size + 2 ≤ w1.heap.size) ⟨(RowAt.new _ _ _).al _, RowAt.new1 _ _ _ _, b2 _ _, by simp⟩ ?_
  rintro w1 ⟨r1, r2, hb, hl⟩
  have R1 := Lib.hid r1
  have Q1 := Lib.hid r2
  have B1 := Lib.hid hb
  have L1 := Lib.hid hl
  clear r1 r2 hb hl
  go_wp2_with (first
    | (refine ldPm (B := #[.int .i64 4, .int .i64 S, .int .i64 D, .int .u64 x]) rfl rfl rfl R1.out rfl (by kernel_rfl) ?_)
    | (go_at_call 48; (with_reducible refine (HV.out _).mono ?_); rintro e w2 ⟨rfl, hb2⟩; have R2 := Lib.hid (R1.out.go hb2); have Q2 := Lib.hid (Q1.out.go hb2); have B2 := Lib.hid (bgo B1.out hb2); have L2 := Lib.hid (Nat.le_trans L1.out hb2.size); clear hb2 R1 Q1 B1)
    | (refine ldPm (B := #[.int .i64 4, .int .i64 S, .int .i64 D, .int .u64 x]) rfl rfl rfl R2.out rfl (by kernel_rfl) ?_)
    | (refine stWh rfl rfl rfl (RowAt.new w2 _ _) rfl rfl rfl rfl ?_; intro w3 r3 o3; have S3 := Lib.hid r3; have O3 := Lib.hid (Below.trans (b1 _) (o3.1 : Below w2.heap.size _ w3)); have R3 := Lib.hid (R2.out.go O3.out); have Q3 := Lib.hid (Q2.out.go O3.out); have B3 := Lib.hid (bgo B2.out O3.out); have L3 := Lib.hid (Nat.le_trans L2.out O3.out.size); have G3 : Hid (w2.heap.size < w3.heap.size) := Lib.hid (by have := r3.lt; exact this); clear r3 o3 R2 Q2 B2)
    | (refine ldi (v := .int .i64 4) rfl rfl rfl R3.out rfl ?_)
    | (refine ldi (v := .int .i64 S) rfl rfl rfl R3.out rfl ?_)
    | (refine ldi (v := .int .i64 D) rfl rfl rfl R3.out rfl ?_)
    | (refine ldu (v := .int .u64 x) rfl rfl rfl R3.out rfl ?_)
    | (go_at_call 51; (with_reducible refine (HN.out _).mono ?_); rintro e w4 ⟨v, rfl, ⟨a, n, cp, rfl, ho⟩, hb4⟩; have O4 := Lib.hid ho; have S4 := Lib.hid (S3.out.go hb4); have Q4 := Lib.hid (Q3.out.go hb4); have B4 := Lib.hid (bgo B3.out hb4); have L4 := Lib.hid (Nat.le_trans L3.out hb4.size); clear ho hb4 Q3 B3 S3)
    | (refine stTo (A' := #[.int .i64 4, .int .i64 S, .int .i64 D, .int .u64 x, .int .i64 0, .int .i64 0, .bool false, .int .i64 0, .int .i64 0, .int .u64 0, .slice none 0 0, .bool false, .int .i64 0, .int .u64 0, .slice none 0 0, .int .i64 q.S, .int .i64 q.T, .slice a n cp, .bool q.s, .int .i64 0, .int .i64 0, .int .i64 0, .slice none 0 0, .bool false, .int .i64 0, .int .i64 0, .int .i64 0, .slice none 0 0, .bool false]) rfl rfl rfl S4.out rfl rfl (all_one rfl) (show 15 + 4 ≤ 29 by decide) (by kernel_rfl) ?_; intro w6 r6 o6; have O6 := Lib.hid (O4.out.oth o6 G3.out); have S6 := Lib.hid r6; have Q6 := Lib.hid (Q4.out.oth o6 (by have := L2.out; omega)); have B6 := Lib.hid (B4.out.trans (o6.1.mono (Nat.le_trans (by omega) L2.out))); clear r6 o6 Q4 B4 L4 O4 S4)
    | (refine ldSk (B := #[.int .i64 4, .int .i64 S, .int .i64 D, .int .u64 x, .int .i64 0, .int .i64 0, .bool false, .int .i64 0, .int .i64 0, .int .u64 0, .slice none 0 0, .bool false, .int .i64 0, .int .u64 0, .slice none 0 0, .int .i64 q.S, .int .i64 q.T, .slice a n cp, .bool q.s, .int .i64 0, .int .i64 0, .int .i64 0, .slice none 0 0, .bool false, .int .i64 0, .int .i64 0, .int .i64 0, .slice none 0 0, .bool false]) rfl rfl rfl S6.out rfl (by kernel_rfl) ?_)
    | (refine stWh rfl rfl rfl Q6.out rfl rfl rfl rfl ?_; intro w5 r5 o5; have Q5 := Lib.hid r5; have B5 := Lib.hid (B6.out.trans (o5.1.mono (Nat.le_succ _))); have O5 := Lib.hid (O6.out.oth o5 (by have := L3.out; omega)); clear r5 o5))
  exact ret_row2 Tryz.results24 rfl rfl rfl Q5.out Tryz.underlying48 rfl infSk ⟨_, rfl, ⟨_, _, _, _, _, _, _, _, _, _, _, _, _, _, _, rfl, OwnI.empty _ _, OwnI.empty _ _, O5.out.mono (by have := L3.out; omega), OwnE.empty _ _, RdB.none_ _ _⟩, B5.out⟩
set_option maxRecDepth 100000 in
set_option maxHeartbeats 2000000 in
theorem rn_k5 (S D x : Int) (w : World) (hS : I64 S) (hD : I64 D) (hE : prmE 5 S D x = 0) :
    Calls Tryz.prog 24 #[.agg #[.int .i64 5, .int .i64 S, .int .i64 D, .int .u64 x]] w fun e w' => ∃ v, e = .returned (.tuple #[v, .int .i64 0]) ∧ OwnK w.heap.size ⟨5, S, D, x, 0, 0, false, CM.none, LL.none, TP.none, newQ S, RK.none⟩ v w' ∧ Below w.heap.size w w' := by
  have HV := Lib.hid (fun w => rvp_any 5 S D x w hS)
  rw [hE] at HV
  have HN := Lib.hid (fun w => rnewQ_any S w hS.1 hS.2)
  generalize newQ S = q at *
  generalize newQE S = E2 at *
  clear hS hD hE
  go_enter Tryz.func24, Tryz.ntmps24
  go_upto_region 1 with (fail)
  refine wp_genW (fun w1 => RowAt w.heap.size #[.int .i64 5, .int .i64 S, .int .i64 D, .int .u64 x] w1 ∧ RowAt (w.heap.size + 1) zcSk w1 ∧ Below w.heap.size w w1 ∧ w.heap.size + 2 ≤ w1.heap.size) ⟨(RowAt.new _ _ _).al _, RowAt.new1 _ _ _ _, b2 _ _, by simp⟩ ?_
  rintro w1 ⟨r1, r2, hb, hl⟩
  have R1 := Lib.hid r1
  have Q1 := Lib.hid r2
  have B1 := Lib.hid hb
  have L1 := Lib.hid hl
  clear r1 r2 hb hl
  go_wp2_with (first
    | (refine ldPm (B := #[.int .i64 5, .int .i64 S, .int .i64 D, .int .u64 x]) rfl rfl rfl R1.out rfl (by kernel_rfl) ?_)
    | (go_at_call 48; (with_reducible refine (HV.out _).mono ?_); rintro e w2 ⟨rfl, hb2⟩; have R2 := Lib.hid (R1.out.go hb2); have Q2 := Lib.hid (Q1.out.go hb2); have B2 := Lib.hid (bgo B1.out hb2); have L2 := Lib.hid (Nat.le_trans L1.out hb2.size); clear hb2 R1 Q1 B1)
    | (refine ldPm (B := #[.int .i64 5, .int .i64 S, .int .i64 D, .int .u64 x]) rfl rfl rfl R2.out rfl (by kernel_rfl) ?_)
    | (refine stWh rfl rfl rfl (RowAt.new w2 _ _) rfl rfl rfl rfl ?_; intro w3 r3 o3; have S3 := Lib.hid r3; have O3 := Lib.hid (Below.trans (b1 _) (o3.1 : Below w2.heap.size _ w3)); have R3 := Lib.hid (R2.out.go O3.out); have Q3 := Lib.hid (Q2.out.go O3.out); have B3 := Lib.hid (bgo B2.out O3.out); have L3 := Lib.hid (Nat.le_trans L2.out O3.out.size); have G3 : Hid (w2.heap.size < w3.heap.size) := Lib.hid (by have := r3.lt; exact this); clear r3 o3 R2 Q2 B2)
    | (refine ldi (v := .int .i64 5) rfl rfl rfl R3.out rfl ?_)
    | (refine ldi (v := .int .i64 S) rfl rfl rfl R3.out rfl ?_)
    | (refine ldi (v := .int .i64 D) rfl rfl rfl R3.out rfl ?_)
    | (refine ldu (v := .int .u64 x) rfl rfl rfl R3.out rfl ?_)
    | (go_at_call 52; (with_reducible refine (HN.out _).mono ?_); rintro e w4 ⟨v, rfl, ⟨a, n, cp, rfl, ho⟩, hb4⟩; have O4 := Lib.hid ho; have S4 := Lib.hid (S3.out.go hb4); have Q4 := Lib.hid (Q3.out.go hb4); have B4 := Lib.hid (bgo B3.out hb4); have L4 := Lib.hid (Nat.le_trans L3.out hb4.size); clear ho hb4 Q3 B3 S3)
    | (refine stFq (A' := #[.int .i64 5, .int .i64 S, .int .i64 D, .int .u64 x, .int .i64 0, .int .i64 0, .bool false, .int .i64 0, .int .i64 0, .int .u64 0, .slice none 0 0, .bool false, .int .i64 0, .int .u64 0, .slice none 0 0, .int .i64 0, .int .i64 0, .slice none 0 0, .bool false, .int .i64 q.S, .int .i64 q.T, .int .i64 q.K, .slice a n cp, .bool q.s, .int .i64 0, .int .i64 0, .int .i64 0, .slice none 0 0, .bool false]) rfl rfl rfl S4.out rfl rfl (all_one rfl) (show 19 + 5 ≤ 29 by decide) (by kernel_rfl) ?_; intro w6 r6 o6; have O6 := Lib.hid (O4.out.oth o6 G3.out); have S6 := Lib.hid r6; have Q6 := Lib.hid (Q4.out.oth o6 (by have := L2.out; omega)); have B6 := Lib.hid (B4.out.trans (o6.1.mono (Nat.le_trans (by omega) L2.out))); clear r6 o6 Q4 B4 L4 O4 S4)
    | (refine ldSk (B := #[.int .i64 5, .int .i64 S, .int .i64 D, .int .u64 x, .int .i64 0, .int .i64 0, .bool false, .int .i64 0, .int .i64 0, .int .u64 0, .slice none 0 0, .bool false, .int .i64 0, .int .u64 0, .slice none 0 0, .int .i64 0, .int .i64 0, .slice none 0 0, .bool false, .int .i64 q.S, .int .i64 q.T, .int .i64 q.K, .slice a n cp, .bool q.s, .int .i64 0, .int .i64 0, .int .i64 0, .slice none 0 0, .bool false]) rfl rfl rfl S6.out rfl (by kernel_rfl) ?_)
    | (refine stWh rfl rfl rfl Q6.out rfl rfl rfl rfl ?_; intro w5 r5 o5; have Q5 := Lib.hid r5; have B5 := Lib.hid (B6.out.trans (o5.1.mono (Nat.le_succ _))); have O5 := Lib.hid (O6.out.oth o5 (by have := L3.out; omega)); clear r5 o5))
  exact ret_row2 Tryz.results24 rfl rfl rfl Q5.out Tryz.underlying48 rfl infSk ⟨_, rfl, ⟨_, _, _, _, _, _, _, _, _, _, _, _, _, _, _, rfl, OwnI.empty _ _, OwnI.empty _ _, OwnE.empty _ _, O5.out.mono (by have := L3.out; omega), RdB.none_ _ _⟩, B5.out⟩
set_option maxRecDepth 100000 in
set_option maxHeartbeats 2000000 in
theorem rn_k6 (S D x : Int) (w : World) (hS : I64 S) (hD : I64 D) (hE : prmE 6 S D x = 0) :
    Calls Tryz.prog 24 #[.agg #[.int .i64 6, .int .i64 S, .int .i64 D, .int .u64 x]] w fun e w' => ∃ v, e = .returned (.tuple #[v, .int .i64 0]) ∧ OwnK w.heap.size ⟨6, S, D, x, 0, 0, false, CM.none, LL.none, TP.none, FQ.none, newR S⟩ v w' ∧ Below w.heap.size w w' := by
  have HV := Lib.hid (fun w => rvp_any 6 S D x w hS)
  rw [hE] at HV
  have HN := Lib.hid (fun w => rnewR_any S w hS.1 hS.2)
  generalize newR S = q at *
  generalize newRE S = E2 at *
  clear hS hD hE
  go_enter Tryz.func24, Tryz.ntmps24
  go_upto_region 1 with (fail)
  refine wp_genW (fun w1 => RowAt w.heap.size #[.int .i64 6, .int .i64 S, .int .i64 D, .int .u64 x] w1 ∧ RowAt (w.heap.size + 1) zcSk w1 ∧ Below w.heap.size w w1 ∧ w.heap.size + 2 ≤ w1.heap.size) ⟨(RowAt.new _ _ _).al _, RowAt.new1 _ _ _ _, b2 _ _, by simp⟩ ?_
  rintro w1 ⟨r1, r2, hb, hl⟩
  have R1 := Lib.hid r1
  have Q1 := Lib.hid r2
  have B1 := Lib.hid hb
  have L1 := Lib.hid hl
  clear r1 r2 hb hl
  go_wp2_with (first
    | (refine ldPm (B := #[.int .i64 6, .int .i64 S, .int .i64 D, .int .u64 x]) rfl rfl rfl R1.out rfl (by kernel_rfl) ?_)
    | (go_at_call 48; (with_reducible refine (HV.out _).mono ?_); rintro e w2 ⟨rfl, hb2⟩; have R2 := Lib.hid (R1.out.go hb2); have Q2 := Lib.hid (Q1.out.go hb2); have B2 := Lib.hid (bgo B1.out hb2); have L2 := Lib.hid (Nat.le_trans L1.out hb2.size); clear hb2 R1 Q1 B1)
    | (refine ldPm (B := #[.int .i64 6, .int .i64 S, .int .i64 D, .int .u64 x]) rfl rfl rfl R2.out rfl (by kernel_rfl) ?_)
    | (refine stWh rfl rfl rfl (RowAt.new w2 _ _) rfl rfl rfl rfl ?_; intro w3 r3 o3; have S3 := Lib.hid r3; have O3 := Lib.hid (Below.trans (b1 _) (o3.1 : Below w2.heap.size _ w3)); have R3 := Lib.hid (R2.out.go O3.out); have Q3 := Lib.hid (Q2.out.go O3.out); have B3 := Lib.hid (bgo B2.out O3.out); have L3 := Lib.hid (Nat.le_trans L2.out O3.out.size); have G3 : Hid (w2.heap.size < w3.heap.size) := Lib.hid (by have := r3.lt; exact this); clear r3 o3 R2 Q2 B2)
    | (refine ldi (v := .int .i64 6) rfl rfl rfl R3.out rfl ?_)
    | (refine ldi (v := .int .i64 S) rfl rfl rfl R3.out rfl ?_)
    | (refine ldi (v := .int .i64 D) rfl rfl rfl R3.out rfl ?_)
    | (refine ldu (v := .int .u64 x) rfl rfl rfl R3.out rfl ?_)
    | (go_at_call 53; (with_reducible refine (HN.out _).mono ?_); rintro e w4 ⟨v, rfl, ⟨a, n, cp, rfl, ho⟩, hb4⟩; have O4 := Lib.hid ho; have S4 := Lib.hid (S3.out.go hb4); have Q4 := Lib.hid (Q3.out.go hb4); have B4 := Lib.hid (bgo B3.out hb4); have L4 := Lib.hid (Nat.le_trans L3.out hb4.size); clear ho hb4 Q3 B3 S3)
    | (refine stRk (A' := #[.int .i64 6, .int .i64 S, .int .i64 D, .int .u64 x, .int .i64 0, .int .i64 0, .bool false, .int .i64 0, .int .i64 0, .int .u64 0, .slice none 0 0, .bool false, .int .i64 0, .int .u64 0, .slice none 0 0, .int .i64 0, .int .i64 0, .slice none 0 0, .bool false, .int .i64 0, .int .i64 0, .int .i64 0, .slice none 0 0, .bool false, .int .i64 q.S, .int .i64 q.T, .int .i64 q.K, .slice a n cp, .bool q.s]) rfl rfl rfl S4.out rfl rfl (all_one rfl) (show 24 + 5 ≤ 29 by decide) (by kernel_rfl) ?_; intro w6 r6 o6; have O6 := Lib.hid (O4.out.oth o6 G3.out); have S6 := Lib.hid r6; have Q6 := Lib.hid (Q4.out.oth o6 (by have := L2.out; omega)); have B6 := Lib.hid (B4.out.trans (o6.1.mono (Nat.le_trans (by omega) L2.out))); clear r6 o6 Q4 B4 L4 O4 S4)
    | (refine ldSk (B := #[.int .i64 6, .int .i64 S, .int .i64 D, .int .u64 x, .int .i64 0, .int .i64 0, .bool false, .int .i64 0, .int .i64 0, .int .u64 0, .slice none 0 0, .bool false, .int .i64 0, .int .u64 0, .slice none 0 0, .int .i64 0, .int .i64 0, .slice none 0 0, .bool false, .int .i64 0, .int .i64 0, .int .i64 0, .slice none 0 0, .bool false, .int .i64 q.S, .int .i64 q.T, .int .i64 q.K, .slice a n cp, .bool q.s]) rfl rfl rfl S6.out rfl (by kernel_rfl) ?_)
    | (refine stWh rfl rfl rfl Q6.out rfl rfl rfl rfl ?_; intro w5 r5 o5; have Q5 := Lib.hid r5; have B5 := Lib.hid (B6.out.trans (o5.1.mono (Nat.le_succ _))); have O5 := Lib.hid (O6.out.oth o5 (by have := L3.out; omega)); clear r5 o5))
  exact ret_row2 Tryz.results24 rfl rfl rfl Q5.out Tryz.underlying48 rfl infSk ⟨_, rfl, ⟨_, _, _, _, _, _, _, _, _, _, _, _, _, _, _, rfl, OwnI.empty _ _, OwnI.empty _ _, OwnE.empty _ _, OwnE.empty _ _, O5.out.mono (by have := L3.out; omega)⟩, B5.out⟩
set_option maxRecDepth 100000 in
set_option maxHeartbeats 2000000 in
theorem rn_k7 (k S D x E : Int) (w : World) (hS : I64 S) (hD : I64 D) (hE : prmE k S D x = E) (h0 : E ≠ 0) :
    Calls Tryz.prog 24 #[.agg #[.int .i64 k, .int .i64 S, .int .i64 D, .int .u64 x]] w fun e w' => ∃ v, e = .returned (.tuple #[v, .int .i64 E]) ∧ OwnK w.heap.size SK.z v w' ∧ Below w.heap.size w w' := by
  have HV := Lib.hid (fun w => rvp_any k S D x w hS)
  rw [hE] at HV
  have h2 : (E != 0) = true := by simp [h0]
  clear h0
  clear hS hD hE
  go_enter Tryz.func24, Tryz.ntmps24
  go_upto_region 1 with (fail)
  refine wp_genW (fun w1 => RowAt w.heap.size #[.int .i64 k, .int .i64 S, .int .i64 D, .int .u64 x] w1 ∧ RowAt (w.heap.size + 1) zcSk w1 ∧ Below w.heap.size w w1 ∧ w.heap.size + 2 ≤ w1.heap.size) ⟨(RowAt.new _ _ _).al _, RowAt.new1 _ _ _ _, b2 _ _, by simp⟩ ?_
  rintro w1 ⟨r1, r2, hb, hl⟩
  have R1 := Lib.hid r1
  have Q1 := Lib.hid r2
  have B1 := Lib.hid hb
  have L1 := Lib.hid hl
  clear r1 r2 hb hl
  go_wp2_with (first
    | (refine ldPm (B := #[.int .i64 k, .int .i64 S, .int .i64 D, .int .u64 x]) rfl rfl rfl R1.out rfl (by kernel_rfl) ?_)
    | (go_at_call 48; (with_reducible refine (HV.out _).mono ?_); rintro e w2 ⟨rfl, hb2⟩; have R2 := Lib.hid (R1.out.go hb2); have Q2 := Lib.hid (Q1.out.go hb2); have B2 := Lib.hid (bgo B1.out hb2); have L2 := Lib.hid (Nat.le_trans L1.out hb2.size); clear hb2 R1 Q1 B1)
    | (refine stWh rfl rfl rfl Q2.out rfl rfl rfl rfl ?_; intro w5 r5 o5; have Q5 := Lib.hid r5; have B5 := Lib.hid (B2.out.trans (o5.1.mono (Nat.le_succ _))); clear r5 o5))
  exact ret_row2 Tryz.results24 rfl rfl rfl Q5.out Tryz.underlying48 rfl infSk ⟨_, rfl, zero_own _ _, B5.out⟩
theorem rn_any (k S D x : Int) (w : World) (hS : I64 S) (hD : I64 D) :
    Calls Tryz.prog 24 #[.agg #[.int .i64 k, .int .i64 S, .int .i64 D, .int .u64 x]] w fun e w' => ∃ v, e = .returned (.tuple #[v, .int .i64 (prmE k S D x)]) ∧ OwnK w.heap.size (nuK k S D x) v w' ∧ Below w.heap.size w w' := by
  by_cases hE : prmE k S D x = 0
  · rw [nu_em hE, hE]
    unfold emK
    rcases kind_cases k with rfl | rfl | rfl | rfl | rfl | rfl | ⟨h1, h2, h3, h4, h5, h6⟩
    · simp only [if_true, if_false, show ((1 : Int) = 2) = False from by simp, show ((1 : Int) = 3) = False from by simp, show ((1 : Int) = 4) = False from by simp, show ((1 : Int) = 5) = False from by simp, show ((1 : Int) = 6) = False from by simp]
      exact rn_k1 S D x w hS hD hE
    · simp only [if_true, if_false, show ((2 : Int) = 1) = False from by simp, show ((2 : Int) = 3) = False from by simp, show ((2 : Int) = 4) = False from by simp, show ((2 : Int) = 5) = False from by simp, show ((2 : Int) = 6) = False from by simp]
      exact rn_k2 S D x w hS hD hE
    · simp only [if_true, if_false, show ((3 : Int) = 1) = False from by simp, show ((3 : Int) = 2) = False from by simp, show ((3 : Int) = 4) = False from by simp, show ((3 : Int) = 5) = False from by simp, show ((3 : Int) = 6) = False from by simp]
      exact rn_k3 S D x w hS hD hE
    · simp only [if_true, if_false, show ((4 : Int) = 1) = False from by simp, show ((4 : Int) = 2) = False from by simp, show ((4 : Int) = 3) = False from by simp, show ((4 : Int) = 5) = False from by simp, show ((4 : Int) = 6) = False from by simp]
      exact rn_k4 S D x w hS hD hE
    · simp only [if_true, if_false, show ((5 : Int) = 1) = False from by simp, show ((5 : Int) = 2) = False from by simp, show ((5 : Int) = 3) = False from by simp, show ((5 : Int) = 4) = False from by simp, show ((5 : Int) = 6) = False from by simp]
      exact rn_k5 S D x w hS hD hE
    · simp only [if_true, if_false, show ((6 : Int) = 1) = False from by simp, show ((6 : Int) = 2) = False from by simp, show ((6 : Int) = 3) = False from by simp, show ((6 : Int) = 4) = False from by simp, show ((6 : Int) = 5) = False from by simp]
      exact rn_k6 S D x w hS hD hE
    · exfalso
      unfold prmE at hE
      simp [h1, h2, h3, h4, h5, h6] at hE
  · have hz : nuK k S D x = SK.z := by unfold nuK; rw [if_pos hE]
    rw [hz]
    exact rn_k7 k S D x _ w hS hD rfl hE
set_option maxRecDepth 100000 in
set_option maxHeartbeats 2000000 in
theorem rsame_row (s : SK) (a1 : Option Addr) (n1 c1 : Nat) (a2 : Option Addr) (n2 c2 : Nat) (a3 : Option Addr) (n3 c3 : Nat) (a4 : Option Addr) (n4 c4 : Nat) (a5 : Option Addr) (n5 c5 : Nat) (u1 : Option Addr) (m1 d1 : Nat) (u2 : Option Addr) (m2 d2 : Nat) (u3 : Option Addr) (m3 d3 : Nat) (u4 : Option Addr) (m4 d4 : Nat) (u5 : Option Addr) (m5 d5 : Nat) (w : World)
    (h : RowsK s (.slice a1 n1 c1) (.slice a2 n2 c2) (.slice a3 n3 c3) (.slice a4 n4 c4) (.slice a5 n5 c5) w) (h' : RowsK s (.slice u1 m1 d1) (.slice u2 m2 d2) (.slice u3 m3 d3) (.slice u4 m4 d4) (.slice u5 m5 d5) w) (ht : s.t.L.length ≤ 549755813888) (hf : s.f.L.length ≤ 549755813888) (hr : LOk s.r.L) :
    Calls Tryz.prog 80 #[.agg (skA s (.slice a1 n1 c1) (.slice a2 n2 c2) (.slice a3 n3 c3) (.slice a4 n4 c4) (.slice a5 n5 c5)), .agg (skA s (.slice u1 m1 d1) (.slice u2 m2 d2) (.slice u3 m3 d3) (.slice u4 m4 d4) (.slice u5 m5 d5))] w fun e w' => e = .returned (.bool true) ∧ Below w.heap.size w w' := by
  have HC := Lib.hid (fun w' (hbw : Below w.heap.size w w') => sameC_any s.c (.agg #[.int .i64 s.c.D, .int .i64 s.c.S, .int .u64 s.c.x, .slice a1 n1 c1, .bool s.c.s]) (.agg #[.int .i64 s.c.D, .int .i64 s.c.S, .int .u64 s.c.x, .slice u1 m1 d1, .bool s.c.s]) w' ⟨_, _, _, rfl, h.1.below hbw⟩ ⟨_, _, _, rfl, h'.1.below hbw⟩)
  have HL := Lib.hid (fun w' (hbw : Below w.heap.size w w') => sameL_any s.l (.agg #[.int .i64 s.l.P, .int .u64 s.l.x, .slice a2 n2 c2]) (.agg #[.int .i64 s.l.P, .int .u64 s.l.x, .slice u2 m2 d2]) w' ⟨_, _, _, rfl, h.2.1.below hbw⟩ ⟨_, _, _, rfl, h'.2.1.below hbw⟩)
  have HT := Lib.hid (fun w' (hbw : Below w.heap.size w w') => sameT_any s.t (.agg #[.int .i64 s.t.S, .int .i64 s.t.T, .slice a3 n3 c3, .bool s.t.s]) (.agg #[.int .i64 s.t.S, .int .i64 s.t.T, .slice u3 m3 d3, .bool s.t.s]) w' ⟨_, _, _, rfl, h.2.2.1.below hbw⟩ ⟨_, _, _, rfl, h'.2.2.1.below hbw⟩ ht)
  have HQ := Lib.hid (fun w' (hbw : Below w.heap.size w w') => sameQ_any s.f (.agg #[.int .i64 s.f.S, .int .i64 s.f.T, .int .i64 s.f.K, .slice a4 n4 c4, .bool s.f.s]) (.agg #[.int .i64 s.f.S, .int .i64 s.f.T, .int .i64 s.f.K, .slice u4 m4 d4, .bool s.f.s]) w' ⟨_, _, _, rfl, h.2.2.2.1.below hbw⟩ ⟨_, _, _, rfl, h'.2.2.2.1.below hbw⟩ hf)
  have HR := Lib.hid (fun w' (hbw : Below w.heap.size w w') => sameR_any s.r (.agg #[.int .i64 s.r.S, .int .i64 s.r.T, .int .i64 s.r.K, .slice a5 n5 c5, .bool s.r.s]) (.agg #[.int .i64 s.r.S, .int .i64 s.r.T, .int .i64 s.r.K, .slice u5 m5 d5, .bool s.r.s]) w' ⟨_, _, _, rfl, h.2.2.2.2.below hbw⟩ ⟨_, _, _, rfl, h'.2.2.2.2.below hbw⟩ hr)
  clear h h' ht hf hr
  unfold skA
  generalize s.k = p0 at *
  generalize s.S = p1 at *
  generalize s.D = p2 at *
  generalize s.x = p3 at *
  generalize s.tT = p4 at *
  generalize s.tI = p5 at *
  generalize s.tF = p6 at *
  generalize s.c.D = p7 at *
  generalize s.c.S = p8 at *
  generalize s.c.x = p9 at *
  generalize s.c.s = p10 at *
  generalize s.l.P = p11 at *
  generalize s.l.x = p12 at *
  generalize s.t.S = p13 at *
  generalize s.t.T = p14 at *
  generalize s.t.s = p15 at *
  generalize s.f.S = p16 at *
  generalize s.f.T = p17 at *
  generalize s.f.K = p18 at *
  generalize s.f.s = p19 at *
  generalize s.r.S = p20 at *
  generalize s.r.T = p21 at *
  generalize s.r.K = p22 at *
  generalize s.r.s = p23 at *
  go_enter Tryz.func80, Tryz.ntmps80
  go_upto_region 1 with (fail)
  refine wp_genW (fun w1 => RowAt w.heap.size #[.int .i64 p0, .int .i64 p1, .int .i64 p2, .int .u64 p3, .int .i64 p4, .int .i64 p5, .bool p6, .int .i64 p7, .int .i64 p8, .int .u64 p9, .slice a1 n1 c1, .bool p10, .int .i64 p11, .int .u64 p12, .slice a2 n2 c2, .int .i64 p13, .int .i64 p14, .slice a3 n3 c3, .bool p15, .int .i64 p16, .int .i64 p17, .int .i64 p18, .slice a4 n4 c4, .bool p19, .int .i64 p20, .int .i64 p21, .int .i64 p22, .slice a5 n5 c5, .bool p23] w1 ∧ RowAt (w.heap.size + 1) #[.int .i64 p0, .int .i64 p1, .int .i64 p2, .int .u64 p3, .int .i64 p4, .int .i64 p5, .bool p6, .int .i64 p7, .int .i64 p8, .int .u64 p9, .slice u1 m1 d1, .bool p10, .int .i64 p11, .int .u64 p12, .slice u2 m2 d2, .int .i64 p13, .int .i64 p14, .slice u3 m3 d3, .bool p15, .int .i64 p16, .int .i64 p17, .int .i64 p18, .slice u4 m4 d4, .bool p19, .int .i64 p20, .int .i64 p21, .int .i64 p22, .slice u5 m5 d5, .bool p23] w1 ∧ Below w.heap.size w w1) ⟨(RowAt.new _ _ _).al _, RowAt.new1 _ _ _ _, b2 _ _⟩ ?_
  rintro w1 ⟨r1, r2, hb⟩
  have R1 := Lib.hid r1
  have Q1 := Lib.hid r2
  have B1 := Lib.hid hb
  clear r1 r2 hb
  go_wp2_with (first
    | (refine ldPm (B := #[.int .i64 p0, .int .i64 p1, .int .i64 p2, .int .u64 p3]) rfl rfl rfl R1.out rfl (by kernel_rfl) ?_)
    | (refine ldPm (B := #[.int .i64 p0, .int .i64 p1, .int .i64 p2, .int .u64 p3]) rfl rfl rfl Q1.out rfl (by kernel_rfl) ?_)
    | (refine lgTa (B := #[.int .i64 p4, .int .i64 p5, .bool p6]) rfl rfl rfl R1.out rfl (by kernel_rfl) ?_)
    | (refine lgTa (B := #[.int .i64 p4, .int .i64 p5, .bool p6]) rfl rfl rfl Q1.out rfl (by kernel_rfl) ?_)
    | (refine lgCm (B := #[.int .i64 p7, .int .i64 p8, .int .u64 p9, .slice a1 n1 c1, .bool p10]) rfl rfl rfl R1.out rfl (by kernel_rfl) ?_)
    | (refine lgCm (B := #[.int .i64 p7, .int .i64 p8, .int .u64 p9, .slice u1 m1 d1, .bool p10]) rfl rfl rfl Q1.out rfl (by kernel_rfl) ?_)
    | (go_at_call 122; (with_reducible refine (HC.out _ B1.out).mono ?_); rintro e w2 ⟨rfl, hbb⟩; have R2 := Lib.hid (R1.out.go hbb); have Q2 := Lib.hid (Q1.out.go hbb); have B2 := Lib.hid (bgo B1.out hbb); clear hbb R1 Q1 B1)
    | (refine lgLl (B := #[.int .i64 p11, .int .u64 p12, .slice a2 n2 c2]) rfl rfl rfl R2.out rfl (by kernel_rfl) ?_)
    | (refine lgLl (B := #[.int .i64 p11, .int .u64 p12, .slice u2 m2 d2]) rfl rfl rfl Q2.out rfl (by kernel_rfl) ?_)
    | (go_at_call 123; (with_reducible refine (HL.out _ B2.out).mono ?_); rintro e w3 ⟨rfl, hbb⟩; have R3 := Lib.hid (R2.out.go hbb); have Q3 := Lib.hid (Q2.out.go hbb); have B3 := Lib.hid (bgo B2.out hbb); clear hbb R2 Q2 B2)
    | (refine lgTo (B := #[.int .i64 p13, .int .i64 p14, .slice a3 n3 c3, .bool p15]) rfl rfl rfl R3.out rfl (by kernel_rfl) ?_)
    | (refine lgTo (B := #[.int .i64 p13, .int .i64 p14, .slice u3 m3 d3, .bool p15]) rfl rfl rfl Q3.out rfl (by kernel_rfl) ?_)
    | (go_at_call 124; (with_reducible refine (HT.out _ B3.out).mono ?_); rintro e w4 ⟨rfl, hbb⟩; have R4 := Lib.hid (R3.out.go hbb); have Q4 := Lib.hid (Q3.out.go hbb); have B4 := Lib.hid (bgo B3.out hbb); clear hbb R3 Q3 B3)
    | (refine lgFq (B := #[.int .i64 p16, .int .i64 p17, .int .i64 p18, .slice a4 n4 c4, .bool p19]) rfl rfl rfl R4.out rfl (by kernel_rfl) ?_)
    | (refine lgFq (B := #[.int .i64 p16, .int .i64 p17, .int .i64 p18, .slice u4 m4 d4, .bool p19]) rfl rfl rfl Q4.out rfl (by kernel_rfl) ?_)
    | (go_at_call 125; (with_reducible refine (HQ.out _ B4.out).mono ?_); rintro e w5 ⟨rfl, hbb⟩; have R5 := Lib.hid (R4.out.go hbb); have Q5 := Lib.hid (Q4.out.go hbb); have B5 := Lib.hid (bgo B4.out hbb); clear hbb R4 Q4 B4)
    | (refine lgRk (B := #[.int .i64 p20, .int .i64 p21, .int .i64 p22, .slice a5 n5 c5, .bool p23]) rfl rfl rfl R5.out rfl (by kernel_rfl) ?_)
    | (refine lgRk (B := #[.int .i64 p20, .int .i64 p21, .int .i64 p22, .slice u5 m5 d5, .bool p23]) rfl rfl rfl Q5.out rfl (by kernel_rfl) ?_)
    | (go_at_call 126; (with_reducible refine (HR.out _ B5.out).mono ?_); rintro e w6 ⟨rfl, hbb⟩; have R6 := Lib.hid (R5.out.go hbb); have Q6 := Lib.hid (Q5.out.go hbb); have B6 := Lib.hid (bgo B5.out hbb); clear hbb R5 Q5 B5))
  go_ret
  exact ⟨rfl, B6.out⟩
end Go.Proofs.YtjibbnknliamkaaGreatDoor
