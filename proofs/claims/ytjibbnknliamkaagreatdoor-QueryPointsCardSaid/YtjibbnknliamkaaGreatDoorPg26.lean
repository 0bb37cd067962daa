/- ROn: in one text. -/
import Derived.Test.YtjibbnknliamkaaGreatDoorPg15
import Derived.Test.YtjibbnknliamkaaGreatDoorPg14
namespace Go.Proofs.YtjibbnknliamkaaGreatDoor
open Go.RowKit
set_option linter.unusedVariables false
set_option linter.unusedSimpArgs false
/-- A sketch that has only the field of its kind. -/
def onK (s : SK) : SK :=
  ⟨s.k, s.S, s.D, s.x, if s.k = 1 then s.tT else 0, if s.k = 1 then s.tI else 0, if s.k = 1 then s.tF else false,
    if s.k = 2 then s.c else CM.none, if s.k = 3 then s.l else LL.none, if s.k = 4 then s.t else TP.none, if s.k = 5 then s.f else FQ.none, if s.k = 6 then s.r else RK.none⟩
def onA (s : SK) (v1 v2 v3 v4 v5 : Value) : Array Value :=
  skA (onK s) (if s.k = 2 then v1 else .slice none 0 0) (if s.k = 3 then v2 else .slice none 0 0) (if s.k = 4 then v3 else .slice none 0 0) (if s.k = 5 then v4 else .slice none 0 0) (if s.k = 6 then v5 else .slice none 0 0)
set_option maxRecDepth 100000 in
set_option maxHeartbeats 2000000 in
theorem on_k1 (s : SK) (a1 : Option Addr) (n1 c1 : Nat) (a2 : Option Addr) (n2 c2 : Nat) (a3 : Option Addr) (n3 c3 : Nat) (a4 : Option Addr) (n4 c4 : Nat) (a5 : Option Addr) (n5 c5 : Nat) (w : World) :
    Calls Tryz.prog 81 #[.agg #[.int .i64 1, .int .i64 s.S, .int .i64 s.D, .int .u64 s.x, .int .i64 s.tT, .int .i64 s.tI, .bool s.tF, .int .i64 s.c.D, .int .i64 s.c.S, .int .u64 s.c.x, .slice a1 n1 c1, .bool s.c.s, .int .i64 s.l.P, .int .u64 s.l.x, .slice a2 n2 c2, .int .i64 s.t.S, .int .i64 s.t.T, .slice a3 n3 c3, .bool s.t.s, .int .i64 s.f.S, .int .i64 s.f.T, .int .i64 s.f.K, .slice a4 n4 c4, .bool s.f.s, .int .i64 s.r.S, .int .i64 s.r.T, .int .i64 s.r.K, .slice a5 n5 c5, .bool s.r.s]] w fun e w' => e = .returned (.agg #[.int .i64 1, .int .i64 s.S, .int .i64 s.D, .int .u64 s.x, .int .i64 s.tT, .int .i64 s.tI, .bool s.tF, .int .i64 0, .int .i64 0, .int .u64 0, .slice none 0 0, .bool false, .int .i64 0, .int .u64 0, .slice none 0 0, .int .i64 0, .int .i64 0, .slice none 0 0, .bool false, .int .i64 0, .int .i64 0, .int .i64 0, .slice none 0 0, .bool false, .int .i64 0, .int .i64 0, .int .i64 0, .slice none 0 0, .bool false]) ∧ Below w.heap.size w w' := by
  go_enter Tryz.func81, Tryz.ntmps81
  go_upto_region 1 with (fail)
  refine wp_genW (fun w1 => RowAt w.heap.size #[.int .i64 1, .int .i64 s.S, .int .i64 s.D, .int .u64 s.x, .int .i64 s.tT, .int .i64 s.tI, .bool s.tF, .int .i64 s.c.D, .int .i64 s.c.S, .int .u64 s.c.x, .slice a1 n1 c1, .bool s.c.s, .int .i64 s.l.P, .int .u64 s.l.x, .slice a2 n2 c2, .int .i64 s.t.S, .int .i64 s.t.T, .slice a3 n3 c3, .bool s.t.s, .int .i64 s.f.S, .int .i64 s.f.T, .int .i64 s.f.K, .slice a4 n4 c4, .bool s.f.s, .int .i64 s.r.S, .int .i64 s.r.T, .int .i64 s.r.K, .slice a5 n5 c5, .bool s.r.s] w1 ∧ RowAt (w.heap.size + 1) zcSk w1 ∧ Below w.heap.size w w1 ∧ w.heap.size + 2 ≤ w1.heap.size) ⟨(RowAt.new _ _ _).al _, RowAt.new1 _ _ _ _, b2 _ _, by simp⟩ ?_
  rintro w1 ⟨r1, r2, hb, hl⟩
  have R1 := Lib.hid r1
  have Q1 := Lib.hid r2
  have B1 := Lib.hid hb
  have L1 := Lib.hid hl
  clear r1 r2 hb hl
  go_wp2_with (first
    | (refine ldPm (B := #[.int .i64 1, .int .i64 s.S, .int .i64 s.D, .int .u64 s.x]) rfl rfl rfl R1.out rfl (by kernel_rfl) ?_)
    | (refine stWh rfl rfl rfl (RowAt.new w1 _ _) rfl rfl rfl rfl ?_; intro w3 r3 o3; have S3 := Lib.hid r3; have O3 := Lib.hid (Below.trans (b1 _) (o3.1 : Below w1.heap.size _ w3)); have R3 := Lib.hid (R1.out.go O3.out); have Q3 := Lib.hid (Q1.out.go O3.out); have B3 := Lib.hid (bgo B1.out O3.out); clear r3 o3 R1 Q1 B1)
    | (refine ldi (v := .int .i64 1) rfl rfl rfl R3.out rfl ?_)
    | (refine ldTa (B := #[.int .i64 s.tT, .int .i64 s.tI, .bool s.tF]) rfl rfl rfl R3.out rfl (by kernel_rfl) ?_)
    | (refine stTa (A' := #[.int .i64 1, .int .i64 s.S, .int .i64 s.D, .int .u64 s.x, .int .i64 s.tT, .int .i64 s.tI, .bool s.tF, .int .i64 0, .int .i64 0, .int .u64 0, .slice none 0 0, .bool false, .int .i64 0, .int .u64 0, .slice none 0 0, .int .i64 0, .int .i64 0, .slice none 0 0, .bool false, .int .i64 0, .int .i64 0, .int .i64 0, .slice none 0 0, .bool false, .int .i64 0, .int .i64 0, .int .i64 0, .slice none 0 0, .bool false]) rfl rfl rfl S3.out rfl rfl (all_one rfl) (show 4 + 3 ≤ 29 by decide) (by kernel_rfl) ?_; intro w4 r4 o4; have S4 := Lib.hid r4; have Q4 := Lib.hid (Q3.out.oth o4 (by have := L1.out; omega)); have B4 := Lib.hid (B3.out.trans (o4.1.mono (by have := L1.out; omega))); clear r4 o4 S3 Q3 B3 R3)
    | (refine ldSk (B := #[.int .i64 1, .int .i64 s.S, .int .i64 s.D, .int .u64 s.x, .int .i64 s.tT, .int .i64 s.tI, .bool s.tF, .int .i64 0, .int .i64 0, .int .u64 0, .slice none 0 0, .bool false, .int .i64 0, .int .u64 0, .slice none 0 0, .int .i64 0, .int .i64 0, .slice none 0 0, .bool false, .int .i64 0, .int .i64 0, .int .i64 0, .slice none 0 0, .bool false, .int .i64 0, .int .i64 0, .int .i64 0, .slice none 0 0, .bool false]) rfl rfl rfl S4.out rfl (by kernel_rfl) ?_)
    | (refine stWh rfl rfl rfl Q4.out rfl rfl rfl rfl ?_; intro w5 r5 o5; have R5 := Lib.hid r5; have B5 := Lib.hid (B4.out.trans (o5.1.mono (Nat.le_succ _))); clear r5 o5))
  exact ret_row Tryz.results81 rfl rfl R5.out Tryz.underlying48 rfl infSk ⟨rfl, B5.out⟩
set_option maxRecDepth 100000 in
set_option maxHeartbeats 2000000 in
theorem on_k2 (s : SK) (a1 : Option Addr) (n1 c1 : Nat) (a2 : Option Addr) (n2 c2 : Nat) (a3 : Option Addr) (n3 c3 : Nat) (a4 : Option Addr) (n4 c4 : Nat) (a5 : Option Addr) (n5 c5 : Nat) (w : World) :
    Calls Tryz.prog 81 #[.agg #[.int .i64 2, .int .i64 s.S, .int .i64 s.D, .int .u64 s.x, .int .i64 s.tT, .int .i64 s.tI, .bool s.tF, .int .i64 s.c.D, .int .i64 s.c.S, .int .u64 s.c.x, .slice a1 n1 c1, .bool s.c.s, .int .i64 s.l.P, .int .u64 s.l.x, .slice a2 n2 c2, .int .i64 s.t.S, .int .i64 s.t.T, .slice a3 n3 c3, .bool s.t.s, .int .i64 s.f.S, .int .i64 s.f.T, .int .i64 s.f.K, .slice a4 n4 c4, .bool s.f.s, .int .i64 s.r.S, .int .i64 s.r.T, .int .i64 s.r.K, .slice a5 n5 c5, .bool s.r.s]] w fun e w' => e = .returned (.agg #[.int .i64 2, .int .i64 s.S, .int .i64 s.D, .int .u64 s.x, .int .i64 0, .int .i64 0, .bool false, .int .i64 s.c.D, .int .i64 s.c.S, .int .u64 s.c.x, .slice a1 n1 c1, .bool s.c.s, .int .i64 0, .int .u64 0, .slice none 0 0, .int .i64 0, .int .i64 0, .slice none 0 0, .bool false, .int .i64 0, .int .i64 0, .int .i64 0, .slice none 0 0, .bool false, .int .i64 0, .int .i64 0, .int .i64 0, .slice none 0 0, .bool false]) ∧ Below w.heap.size w w' := by
  go_enter Tryz.func81, Tryz.ntmps81
  go_upto_region 1 with (fail)
  refine wp_genW (fun w1 => RowAt w.heap.size #[.int .i64 2, .int .i64 s.S, .int .i64 s.D, .int .u64 s.x, .int .i64 s.tT, .int .i64 s.tI, .bool s.tF, .int .i64 s.c.D, .int .i64 s.c.S, .int .u64 s.c.x, .slice a1 n1 c1, .bool s.c.s, .int .i64 s.l.P, .int .u64 s.l.x, .slice a2 n2 c2, .int .i64 s.t.S, .int .i64 s.t.T, .slice a3 n3 c3, .bool s.t.s, .int .i64 s.f.S, .int .i64 s.f.T, .int .i64 s.f.K, .slice a4 n4 c4, .bool s.f.s, .int .i64 s.r.S, .int .i64 s.r.T, .int .i64 s.r.K, .slice a5 n5 c5, .bool s.r.s] w1 ∧ RowAt (w.heap.size + 1) zcSk w1 ∧ Below w.heap.size w w1 ∧ w.heap.size + 2 ≤ w1.heap.size) ⟨(RowAt.new _ _ _).al _, RowAt.new1 _ _ _ _, b2 _ _, by simp⟩ ?_
  rintro w1 ⟨r1, r2, hb, hl⟩
  have R1 := Lib.hid r1
  have Q1 := Lib.hid r2
  have B1 := Lib.hid hb
  have L1 := Lib.hid hl
  clear r1 r2 hb hl
  go_wp2_with (first
    | (refine ldPm (B := #[.int .i64 2, .int .i64 s.S, .int .i64 s.D, .int .u64 s.x]) rfl rfl rfl R1.out rfl (by kernel_rfl) ?_)
    | (refine stWh rfl rfl rfl (RowAt.new w1 _ _) rfl rfl rfl rfl ?_; intro w3 r3 o3; have S3 := Lib.hid r3; have O3 := Lib.hid (Below.trans (b1 _) (o3.1 : Below w1.heap.size _ w3)); have R3 := Lib.hid (R1.out.go O3.out); have Q3 := Lib.hid (Q1.out.go O3.out); have B3 := Lib.hid (bgo B1.out O3.out); clear r3 o3 R1 Q1 B1)
    | (refine ldi (v := .int .i64 2) rfl rfl rfl R3.out rfl ?_)
    | (refine ldCm (B := #[.int .i64 s.c.D, .int .i64 s.c.S, .int .u64 s.c.x, .slice a1 n1 c1, .bool s.c.s]) rfl rfl rfl R3.out rfl (by kernel_rfl) ?_)
    | (refine stCm (A' := #[.int .i64 2, .int .i64 s.S, .int .i64 s.D, .int .u64 s.x, .int .i64 0, .int .i64 0, .bool false, .int .i64 s.c.D, .int .i64 s.c.S, .int .u64 s.c.x, .slice a1 n1 c1, .bool s.c.s, .int .i64 0, .int .u64 0, .slice none 0 0, .int .i64 0, .int .i64 0, .slice none 0 0, .bool false, .int .i64 0, .int .i64 0, .int .i64 0, .slice none 0 0, .bool false, .int .i64 0, .int .i64 0, .int .i64 0, .slice none 0 0, .bool false]) rfl rfl rfl S3.out rfl rfl (all_one rfl) (show 7 + 5 ≤ 29 by decide) (by kernel_rfl) ?_; intro w4 r4 o4; have S4 := Lib.hid r4; have Q4 := Lib.hid (Q3.out.oth o4 (by have := L1.out; omega)); have B4 := Lib.hid (B3.out.trans (o4.1.mono (by have := L1.out; omega))); clear r4 o4 S3 Q3 B3 R3)
    | (refine ldSk (B := #[.int .i64 2, .int .i64 s.S, .int .i64 s.D, .int .u64 s.x, .int .i64 0, .int .i64 0, .bool false, .int .i64 s.c.D, .int .i64 s.c.S, .int .u64 s.c.x, .slice a1 n1 c1, .bool s.c.s, .int .i64 0, .int .u64 0, .slice none 0 0, .int .i64 0, .int .i64 0, .slice none 0 0, .bool false, .int .i64 0, .int .i64 0, .int .i64 0, .slice none 0 0, .bool false, .int .i64 0, .int .i64 0, .int .i64 0, .slice none 0 0, .bool false]) rfl rfl rfl S4.out rfl (by kernel_rfl) ?_)
    | (refine stWh rfl rfl rfl Q4.out rfl rfl rfl rfl ?_; intro w5 r5 o5; have R5 := Lib.hid r5; have B5 := Lib.hid (B4.out.trans (o5.1.mono (Nat.le_succ _))); clear r5 o5))
  exact ret_row Tryz.results81 rfl rfl R5.out Tryz.underlying48 rfl infSk ⟨rfl, B5.out⟩
set_option maxRecDepth 100000 in
set_option maxHeartbeats 2000000 in
theorem on_k3 (s : SK) (a1 : Option Addr) (n1 c1 : Nat) (a2 : Option Addr) (n2 c2 : Nat) (a3 : Option Addr) (n3 c3 : Nat) (a4 : Option Addr) (n4 c4 : Nat) (a5 : Option Addr) (n5 c5 : Nat) (w : World) :
    Calls Tryz.prog 81 #[.agg #[.int .i64 3, .int .i64 s.S, .int .i64 s.D, .int .u64 s.x, .int .i64 s.tT, .int .i64 s.tI, .bool s.tF, .int .i64 s.c.D, .int .i64 s.c.S, .int .u64 s.c.x, .slice a1 n1 c1, .bool s.c.s, .int .i64 s.l.P, .int .u64 s.l.x, .slice a2 n2 c2, .int .i64 s.t.S, .int .i64 s.t.T, .slice a3 n3 c3, .bool s.t.s, .int .i64 s.f.S, .int .i64 s.f.T, .int .i64 s.f.K, .slice a4 n4 c4, .bool s.f.s, .int .i64 s.r.S, .int .i64 s.r.T, .int .i64 s.r.K, .slice a5 n5 c5, .bool s.r.s]] w fun e w' => e = .returned (.agg #[.int .i64 3, .int .i64 s.S, .int .i64 s.D, .int .u64 s.x, .int .i64 0, .int .i64 0, .bool false, .int .i64 0, .int .i64 0, .int .u64 0, .slice none 0 0, .bool false, .int .i64 s.l.P, .int .u64 s.l.x, .slice a2 n2 c2, .int .i64 0, .int .i64 0, .slice none 0 0, .bool false, .int .i64 0, .int .i64 0, .int .i64 0, .slice none 0 0, .bool false, .int .i64 0, .int .i64 0, .int .i64 0, .slice none 0 0, .bool false]) ∧ Below w.heap.size w w' := by
  go_enter Tryz.func81, Tryz.ntmps81
  go_upto_region 1 with (fail)
  refine wp_genW (fun w1 => RowAt w.heap.size #[.int .i64 3, .int .i64 s.S, .int .i64 s.D, .int .u64 s.x, .int .i64 s.tT, .int .i64 s.tI, .bool s.tF, .int .i64 s.c.D, .int .i64 s.c.S, .int .u64 s.c.x, .slice a1 n1 c1, .bool s.c.s, .int .i64 s.l.P, .int .u64 s.l.x, .slice a2 n2 c2, .int .i64 s.t.S, .int .i64 s.t.T, .slice a3 n3 c3, .bool s.t.s, .int .i64 s.f.S, .int .i64 s.f.T, .int .i64 s.f.K, .slice a4 n4 c4, .bool s.f.s, .int .i64 s.r.S, .int .i64 s.r.T, .int .i64 s.r.K, .slice a5 n5 c5, .bool s.r.s] w1 ∧ RowAt (w.heap.size + 1) zcSk w1 ∧ Below w.heap.size w w1 ∧ w.heap.size + 2 ≤ w1.heap.size) ⟨(RowAt.new _ _ _).al _, RowAt.new1 _ _ _ _, b2 _ _, by simp⟩ ?_
  rintro w1 ⟨r1, r2, hb, hl⟩
  have R1 := Lib.hid r1
  have Q1 := Lib.hid r2
  have B1 := Lib.hid hb
  have L1 := Lib.hid hl
  clear r1 r2 hb hl
  go_wp2_with (first
    | (refine ldPm (B := #[.int .i64 3, .int .i64 s.S, .int .i64 s.D, .int .u64 s.x]) rfl rfl rfl R1.out rfl (by kernel_rfl) ?_)
    | (refine stWh rfl rfl rfl (RowAt.new w1 _ _) rfl rfl rfl rfl ?_; intro w3 r3 o3; have S3 := Lib.hid r3; have O3 := Lib.hid (Below.trans (b1 _) (o3.1 : Below w1.heap.size _ w3)); have R3 := Lib.hid (R1.out.go O3.out); have Q3 := Lib.hid (Q1.out.go O3.out); have B3 := Lib.hid (bgo B1.out O3.out); clear r3 o3 R1 Q1 B1)
    | (refine ldi (v := .int .i64 3) rfl rfl rfl R3.out rfl ?_)
    | (refine ldLl (B := #[.int .i64 s.l.P, .int .u64 s.l.x, .slice a2 n2 c2]) rfl rfl rfl R3.out rfl (by kernel_rfl) ?_)
    | (refine stLl (A' := #[.int .i64 3, .int .i64 s.S, .int .i64 s.D, .int .u64 s.x, .int .i64 0, .int .i64 0, .bool false, .int .i64 0, .int .i64 0, .int .u64 0, .slice none 0 0, .bool false, .int .i64 s.l.P, .int .u64 s.l.x, .slice a2 n2 c2, .int .i64 0, .int .i64 0, .slice none 0 0, .bool false, .int .i64 0, .int .i64 0, .int .i64 0, .slice none 0 0, .bool false, .int .i64 0, .int .i64 0, .int .i64 0, .slice none 0 0, .bool false]) rfl rfl rfl S3.out rfl rfl (all_one rfl) (show 12 + 3 ≤ 29 by decide) (by kernel_rfl) ?_; intro w4 r4 o4; have S4 := Lib.hid r4; have Q4 := Lib.hid (Q3.out.oth o4 (by have := L1.out; omega)); have B4 := Lib.hid (B3.out.trans (o4.1.mono (by have := L1.out; omega))); clear r4 o4 S3 Q3 B3 R3)
    | (refine ldSk (B := #[.int .i64 3, .int .i64 s.S, .int .i64 s.D, .int .u64 s.x, .int .i64 0, .int .i64 0, .bool false, .int .i64 0, .int .i64 0, .int .u64 0, .slice none 0 0, .bool false, .int .i64 s.l.P, .int .u64 s.l.x, .slice a2 n2 c2, .int .i64 0, .int .i64 0, .slice none 0 0, .bool false, .int .i64 0, .int .i64 0, .int .i64 0, .slice none 0 0, .bool false, .int .i64 0, .int .i64 0, .int .i64 0, .slice none 0 0, .bool false]) rfl rfl rfl S4.out rfl (by kernel_rfl) ?_)
    | (refine stWh rfl rfl rfl Q4.out rfl rfl rfl rfl ?_; intro w5 r5 o5; have R5 := Lib.hid r5; have B5 := Lib.hid (B4.out.trans (o5.1.mono (Nat.le_succ _))); clear r5 o5))
  exact ret_row Tryz.results81 rfl rfl R5.out Tryz.underlying48 rfl infSk ⟨rfl, B5.out⟩
set_option maxRecDepth 100000 in
set_option maxHeartbeats 2000000 in
theorem on_k4 (s : SK) (a1 : Option Addr) (n1 c1 : Nat) (a2 : Option Addr) (n2 c2 : Nat) (a3 : Option Addr) (n3 c3 : Nat) (a4 : Option Addr) (n4 c4 : Nat) (a5 : Option Addr) (n5 c5 : Nat) (w : World) :
    Calls Tryz.prog 81 #[.agg #[.int .i64 4, .int .i64 s.S, .int .i64 s.D, .int .u64 s.x, .int .i64 s.tT, .int .i64 s.tI, .bool s.tF, .int .i64 s.c.D, .int .i64 s.c.S, .int .u64 s.c.x, .slice a1 n1 c1, .bool s.c.s, .int .i64 s.l.P, .int .u64 s.l.x, .slice a2 n2 c2, .int .i64 s.t.S, .int .i64 s.t.T, .slice a3 n3 c3, .bool s.t.s, .int .i64 s.f.S, .int .i64 s.f.T, .int .i64 s.f.K, .slice a4 n4 c4, .bool s.f.s, .int .i64 s.r.S, .int .i64 s.r.T, .int .i64 s.r.K, .slice a5 n5 c5, .bool s.r.s]] w fun e w' => e = .returned (.agg #[.int .i64 4, .int .i64 s.S, .int .i64 s.D, .int .u64 s.x, .int .i64 0, .int .i64 0, .bool false, .int .i64 0, .int .i64 0, .int .u64 0, .slice none 0 0, .bool false, .int .i64 0, .int .u64 0, .slice none 0 0, .int .i64 s.t.S, .int .i64 s.t.T, .slice a3 n3 c3, .bool s.t.s, .int .i64 0, .int .i64 0, .int .i64 0, .slice none 0 0, .bool false, .int .i64 0, .int .i64 0, .int .i64 0, .slice none 0 0, .bool false]) ∧ Below w.heap.size w w' := by
  go_enter Tryz.func81, Tryz.ntmps81
  go_upto_region 1 with (fail)
  refine wp_genW (fun w1 => RowAt w.heap.size #[.int .i64 4, .int .i64 s.S, .int .i64 s.D, .int .u64 s.x, .int .i64 s.tT, .int .i64 s.tI, .bool s.tF, .int .i64 s.c.D, .int .i64 s.c.S, .int .u64 s.c.x, .slice a1 n1 c1, .bool s.c.s, .int .i64 s.l.P, .int .u64 s.l.x, .slice a2 n2 c2, .int .i64 s.t.S, .int .i64 s.t.T, .slice a3 n3 c3, .bool s.t.s, .int .i64 s.f.S, .int .i64 s.f.T, .int .i64 s.f.K, .slice a4 n4 c4, .bool s.f.s, .int .i64 s.r.S, .int .i64 s.r.T, .int .i64 s.r.K, .slice a5 n5 c5, .bool s.r.s] w1 ∧ RowAt (w.heap.size + 1) zcSk w1 ∧ Below w.heap.size w w1 ∧ w.heap.size + 2 ≤ w1.heap.size) ⟨(RowAt.new _ _ _).al _, RowAt.new1 _ _ _ _, b2 _ _, by simp⟩ ?_
  rintro w1 ⟨r1, r2, hb, hl⟩
  have R1 := Lib.hid r1
  have Q1 := Lib.hid r2
  have B1 := Lib.hid hb
  have L1 := Lib.hid hl
  clear r1 r2 hb hl
  go_wp2_with (first
    | (refine ldPm (B := #[.int .i64 4, .int .i64 s.S, .int .i64 s.D, .int .u64 s.x]) rfl rfl rfl R1.out rfl (by kernel_rfl) ?_)
    | (refine stWh rfl rfl rfl (RowAt.new w1 _ _) rfl rfl rfl rfl ?_; intro w3 r3 o3; have S3 := Lib.hid r3; have O3 := Lib.hid (Below.trans (b1 _) (o3.1 : Below w1.heap.size _ w3)); have R3 := Lib.hid (R1.out.go O3.out); have Q3 := Lib.hid (Q1.out.go O3.out); have B3 := Lib.hid (bgo B1.out O3.out); clear r3 o3 R1 Q1 B1)
    | (refine ldi (v := .int .i64 4) rfl rfl rfl R3.out rfl ?_)
    | (refine ldTo (B := #[.int .i64 s.t.S, .int .i64 s.t.T, .slice a3 n3 c3, .bool s.t.s]) rfl rfl rfl R3.out rfl (by kernel_rfl) ?_)
    | (refine stTo (A' := #[.int .i64 4, .int .i64 s.S, .int .i64 s.D, .int .u64 s.x, .int .i64 0, .int .i64 0, .bool false, .int .i64 0, .int .i64 0, .int .u64 0, .slice none 0 0, .bool false, .int .i64 0, .int .u64 0, .slice none 0 0, .int .i64 s.t.S, .int .i64 s.t.T, .slice a3 n3 c3, .bool s.t.s, .int .i64 0, .int .i64 0, .int .i64 0, .slice none 0 0, .bool false, .int .i64 0, .int .i64 0, .int .i64 0, .slice none 0 0, .bool false]) rfl rfl rfl S3.out rfl rfl (all_one rfl) (show 15 + 4 ≤ 29 by decide) (by kernel_rfl) ?_; intro w4 r4 o4; have S4 := Lib.hid r4; have Q4 := Lib.hid (Q3.out.oth o4 (by have := L1.out; omega)); have B4 := Lib.hid (B3.out.trans (o4.1.mono (by have := L1.out; omega))); clear r4 o4 S3 Q3 B3 R3)
    | (refine ldSk (B := #[.int .i64 4, .int .i64 s.S, .int .i64 s.D, .int .u64 s.x, .int .i64 0, .int .i64 0, .bool false, .int .i64 0, .int .i64 0, .int .u64 0, .slice none 0 0, .bool false, .int .i64 0, .int .u64 0, .slice none 0 0, .int .i64 s.t.S, .int .i64 s.t.T, .slice a3 n3 c3, .bool s.t.s, .int .i64 0, .int .i64 0, .int .i64 0, .slice none 0 0, .bool false, .int .i64 0, .int .i64 0, .int .i64 0, .slice none 0 0, .bool false]) rfl rfl rfl S4.out rfl (by kernel_rfl) ?_)
    | (refine stWh rfl rfl rfl Q4.out rfl rfl rfl rfl ?_; intro w5 r5 o5; have R5 := Lib.hid r5; have B5 := Lib.hid (B4.out.trans (o5.1.mono (Nat.le_succ _))); clear r5 o5))
  exact ret_row Tryz.results81 rfl rfl R5.out Tryz.underlying48 rfl infSk ⟨rfl, B5.out⟩
set_option maxRecDepth 100000 in
set_option maxHeartbeats 2000000 in
theorem on_k5 (s : SK) (a1 : Option Addr) (n1 c1 : Nat) (a2 : Option Addr) (n2 c2 : Nat) (a3 : Option Addr) (n3 c3 : Nat) (a4 : Option Addr) (n4 c4 : Nat) (a5 : Option Addr) (n5 c5 : Nat) (w : World) :
    Calls Tryz.prog 81 #[.agg #[.int .i64 5, .int .i64 s.S, .int .i64 s.D, .int .u64 s.x, .int .i64 s.tT, .int .i64 s.tI, .bool s.tF, .int .i64 s.c.D, .int .i64 s.c.S, .int .u64 s.c.x, .slice a1 n1 c1, .bool s.c.s, .int .i64 s.l.P, .int .u64 s.l.x, .slice a2 n2 c2, .int .i64 s.t.S, .int .i64 s.t.T, .slice a3 n3 c3, .bool s.t.s, .int .i64 s.f.S, .int .i64 s.f.T, .int .i64 s.f.K, .slice a4 n4 c4, .bool s.f.s, .int .i64 s.r.S, .int .i64 s.r.T, .int .i64 s.r.K, .slice a5 n5 c5, .bool s.r.s]] w fun e w' => e = .returned (.agg #[.int .i64 5, .int .i64 s.S, .int .i64 s.D, .int .u64 s.x, .int .i64 0, .int .i64 0, .bool false, .int .i64 0, .int .i64 0, .int .u64 0, .slice none 0 0, .bool false, .int .i64 0, .int .u64 0, .slice none 0 0, .int .i64 0, .int .i64 0, .slice none 0 0, .bool false, .int .i64 s.f.S, .int .i64 s.f.T, .int .i64 s.f.K, .slice a4 n4 c4, .bool s.f.s, .int .i64 0, .int .i64 0, .int .i64 0, .slice none 0 0, .bool false]) ∧ Below w.heap.size w w' := by
  go_enter Tryz.func81, Tryz.ntmps81
  go_upto_region 1 with (fail)
  refine wp_genW (fun w1 => RowAt w.heap.size #[.int .i64 5, .int .i64 s.S, .int .i64 s.D, .int .u64 s.x, .int .i64 s.tT, .int .i64 s.tI, .bool s.tF, .int .i64 s.c.D, .int .i64 s.c.S, .int .u64 s.c.x, .slice a1 n1 c1, .bool s.c.s, .int .i64 s.l.P, .int .u64 s.l.x, .slice a2 n2 c2, .int .i64 s.t.S, .int .i64 s.t.T, .slice a3 n3 c3, .bool s.t.s, .int .i64 s.f.S, .int .i64 s.f.T, .int .i64 s.f.K, .slice a4 n4 c4, .bool s.f.s, .int .i64 s.r.S, .int .i64 s.r.T, .int .i64 s.r.K, .slice a5 n5 c5, .bool s.r.s] w1 ∧ RowAt (w.heap.size + 1) zcSk w1 ∧ Below w.heap.size w w1 ∧ w.heap.size + 2 ≤ w1.heap.size) ⟨(RowAt.new _ _ _).al _, RowAt.new1 _ _ _ _, b2 _ _, by simp⟩ ?_
  rintro w1 ⟨r1, r2, hb, hl⟩
  have R1 := Lib.hid r1
  have Q1 := Lib.hid r2
  have B1 := Lib.hid hb
  have L1 := Lib.hid hl
  clear r1 r2 hb hl
  go_wp2_with (first
    | (refine ldPm (B := #[.int .i64 5, .int .i64 s.S, .int .i64 s.D, .int .u64 s.x]) rfl rfl rfl R1.out rfl (by kernel_rfl) ?_)
    | (refine stWh rfl rfl rfl (RowAt.new w1 _ _) rfl rfl rfl rfl ?_; intro w3 r3 o3; have S3 := Lib.hid r3; have O3 := Lib.hid (Below.trans (b1 _) (o3.1 : Below w1.heap.size _ w3)); have R3 := Lib.hid (R1.out.go O3.out); have Q3 := Lib.hid (Q1.out.go O3.out); have B3 := Lib.hid (bgo B1.out O3.out); clear r3 o3 R1 Q1 B1)
    | (refine ldi (v := .int .i64 5) rfl rfl rfl R3.out rfl ?_)
    | (refine ldFq (B := #[.int .i64 s.f.S, .int .i64 s.f.T, .int .i64 s.f.K, .slice a4 n4 c4, .bool s.f.s]) rfl rfl rfl R3.out rfl (by kernel_rfl) ?_)
    | (refine stFq (A' := #[.int .i64 5, .int .i64 s.S, .int .i64 s.D, .int .u64 s.x, .int .i64 0, .int .i64 0, .bool false, .int .i64 0, .int .i64 0, .int .u64 0, .slice none 0 0, .bool false, .int .i64 0, .int .u64 0, .slice none 0 0, .int .i64 0, .int .i64 0, .slice none 0 0, .bool false, .int .i64 s.f.S, .int .i64 s.f.T, .int .i64 s.f.K, .slice a4 n4 c4, .bool s.f.s, .int .i64 0, .int .i64 0, .int .i64 0, .slice none 0 0, .bool false]) rfl rfl rfl S3.out rfl rfl (all_one rfl) (show 19 + 5 ≤ 29 by decide) (by kernel_rfl) ?_; intro w4 r4 o4; have S4 := Lib.hid r4; have Q4 := Lib.hid (Q3.out.oth o4 (by have := L1.out; omega)); have B4 := Lib.hid (B3.out.trans (o4.1.mono (by have := L1.out; omega))); clear r4 o4 S3 Q3 B3 R3)
    | (refine ldSk (B := #[.int .i64 5, .int .i64 s.S, .int .i64 s.D, .int .u64 s.x, .int .i64 0, .int .i64 0, .bool false, .int .i64 0, .int .i64 0, .int .u64 0, .slice none 0 0, .bool false, .int .i64 0, .int .u64 0, .slice none 0 0, .int .i64 0, .int .i64 0, .slice none 0 0, .bool false, .int .i64 s.f.S, .int .i64 s.f.T, .int .i64 s.f.K, .slice a4 n4 c4, .bool s.f.s, .int .i64 0, .int .i64 0, .int .i64 0, .slice none 0 0, .bool false]) rfl rfl rfl S4.out rfl (by kernel_rfl) ?_)
    | (refine stWh rfl rfl rfl Q4.out rfl rfl rfl rfl ?_; intro w5 r5 o5; have R5 := Lib.hid r5; have B5 := Lib.hid (B4.out.trans (o5.1.mono (Nat.le_succ _))); clear r5 o5))
  exact ret_row Tryz.results81 rfl rfl R5.out Tryz.underlying48 rfl infSk ⟨rfl, B5.out⟩
set_option maxRecDepth 100000 in
set_option maxHeartbeats 2000000 in
theorem on_k6 (s : SK) (a1 : Option Addr) (n1 c1 : Nat) (a2 : Option Addr) (n2 c2 : Nat) (a3 : Option Addr) (n3 c3 : Nat) (a4 : Option Addr) (n4 c4 : Nat) (a5 : Option Addr) (n5 c5 : Nat) (w : World) :
    Calls Tryz.prog 81 #[.agg #[.int .i64 6, .int .i64 s.S, .int .i64 s.D, .int .u64 s.x, .int .i64 s.tT, .int .i64 s.tI, .bool s.tF, .int .i64 s.c.D, .int .i64 s.c.S, .int .u64 s.c.x, .slice a1 n1 c1, .bool s.c.s, .int .i64 s.l.P, .int .u64 s.l.x, .slice a2 n2 c2, .int .i64 s.t.S, .int .i64 s.t.T, .slice a3 n3 c3, .bool s.t.s, .int .i64 s.f.S, .int .i64 s.f.T, .int .i64 s.f.K, .slice a4 n4 c4, .bool s.f.s, .int .i64 s.r.S, .int .i64 s.r.T, .int .i64 s.r.K, .slice a5 n5 c5, .bool s.r.s]] w fun e w' => e = .returned (.agg #[.int .i64 6, .int .i64 s.S, .int .i64 s.D, .int .u64 s.x, .int .i64 0, .int .i64 0, .bool false, .int .i64 0, .int .i64 0, .int .u64 0, .slice none 0 0, .bool false, .int .i64 0, .int .u64 0, .slice none 0 0, .int .i64 0, .int .i64 0, .slice none 0 0, .bool false, .int .i64 0, .int .i64 0, .int .i64 0, .slice none 0 0, .bool false, .int .i64 s.r.S, .int .i64 s.r.T, .int .i64 s.r.K, .slice a5 n5 c5, .bool s.r.s]) ∧ Below w.heap.size w w' := by
  go_enter Tryz.func81, Tryz.ntmps81
  go_upto_region 1 with (fail)
  refine wp_genW (fun w1 => RowAt w.heap.size #[.int .i64 6, .int .i64 s.S, .int .i64 s.D, .int .u64 s.x, .int .i64 s.tT, .int .i64 s.tI, .bool s.tF, .int .i64 s.c.D, .int .i64 s.c.S, .int .u64 s.c.x, .slice a1 n1 c1, .bool s.c.s, .int .i64 s.l.P, .int .u64 s.l.x, .slice a2 n2 c2, .int .i64 s.t.S, .int .i64 s.t.T, .slice a3 n3 c3, .bool s.t.s, .int .i64 s.f.S, .int .i64 s.f.T, .int .i64 s.f.K, .slice a4 n4 c4, .bool s.f.s, .int .i64 s.r.S, .int .i64 s.r.T, .int .i64 s.r.K, .slice a5 n5 c5, .bool s.r.s] w1 ∧ RowAt (w.heap.size + 1) zcSk w1 ∧ Below w.heap.size w w1 ∧ w.heap.size + 2 ≤ w1.heap.size) ⟨(RowAt.new _ _ _).al _, RowAt.new1 _ _ _ _, b2 _ _, by simp⟩ ?_
  rintro w1 ⟨r1, r2, hb, hl⟩
  have R1 := Lib.hid r1
  have Q1 := Lib.hid r2
  have B1 := Lib.hid hb
  have L1 := Lib.hid hl
  clear r1 r2 hb hl
  go_wp2_with (first
    | (refine ldPm (B := #[.int .i64 6, .int .i64 s.S, .int .i64 s.D, .int .u64 s.x]) rfl rfl rfl R1.out rfl (by kernel_rfl) ?_)
    | (refine stWh rfl rfl rfl (RowAt.new w1 _ _) rfl rfl rfl rfl ?_; intro w3 r3 o3; have S3 := Lib.hid r3; have O3 := Lib.hid (Below.trans (b1 _) (o3.1 : Below w1.heap.size _ w3)); have R3 := Lib.hid (R1.out.go O3.out); have Q3 := Lib.hid (Q1.out.go O3.out); have B3 := Lib.hid (bgo B1.out O3.out); clear r3 o3 R1 Q1 B1)
    | (refine ldi (v := .int .i64 6) rfl rfl rfl R3.out rfl ?_)
    | (refine ldRk (B := #[.int .i64 s.r.S, .int .i64 s.r.T, .int .i64 s.r.K, .slice a5 n5 c5, .bool s.r.s]) rfl rfl rfl R3.out rfl (by kernel_rfl) ?_)
    | (refine stRk (A' := #[.int .i64 6, .int .i64 s.S, .int .i64 s.D, .int .u64 s.x, .int .i64 0, .int .i64 0, .bool false, .int .i64 0, .int .i64 0, .int .u64 0, .slice none 0 0, .bool false, .int .i64 0, .int .u64 0, .slice none 0 0, .int .i64 0, .int .i64 0, .slice none 0 0, .bool false, .int .i64 0, .int .i64 0, .int .i64 0, .slice none 0 0, .bool false, .int .i64 s.r.S, .int .i64 s.r.T, .int .i64 s.r.K, .slice a5 n5 c5, .bool s.r.s]) rfl rfl rfl S3.out rfl rfl (all_one rfl) (show 24 + 5 ≤ 29 by decide) (by kernel_rfl) ?_; intro w4 r4 o4; have S4 := Lib.hid r4; have Q4 := Lib.hid (Q3.out.oth o4 (by have := L1.out; omega)); have B4 := Lib.hid (B3.out.trans (o4.1.mono (by have := L1.out; omega))); clear r4 o4 S3 Q3 B3 R3)
    | (refine ldSk (B := #[.int .i64 6, .int .i64 s.S, .int .i64 s.D, .int .u64 s.x, .int .i64 0, .int .i64 0, .bool false, .int .i64 0, .int .i64 0, .int .u64 0, .slice none 0 0, .bool false, .int .i64 0, .int .u64 0, .slice none 0 0, .int .i64 0, .int .i64 0, .slice none 0 0, .bool false, .int .i64 0, .int .i64 0, .int .i64 0, .slice none 0 0, .bool false, .int .i64 s.r.S, .int .i64 s.r.T, .int .i64 s.r.K, .slice a5 n5 c5, .bool s.r.s]) rfl rfl rfl S4.out rfl (by kernel_rfl) ?_)
    | (refine stWh rfl rfl rfl Q4.out rfl rfl rfl rfl ?_; intro w5 r5 o5; have R5 := Lib.hid r5; have B5 := Lib.hid (B4.out.trans (o5.1.mono (Nat.le_succ _))); clear r5 o5))
  exact ret_row Tryz.results81 rfl rfl R5.out Tryz.underlying48 rfl infSk ⟨rfl, B5.out⟩
set_option maxRecDepth 100000 in
set_option maxHeartbeats 2000000 in
theorem on_k7 (s : SK) (k : Int) (h1 : k ≠ 1) (h2 : k ≠ 2) (h3 : k ≠ 3) (h4 : k ≠ 4) (h5 : k ≠ 5) (h6 : k ≠ 6) (a1 : Option Addr) (n1 c1 : Nat) (a2 : Option Addr) (n2 c2 : Nat) (a3 : Option Addr) (n3 c3 : Nat) (a4 : Option Addr) (n4 c4 : Nat) (a5 : Option Addr) (n5 c5 : Nat) (w : World) :
    Calls Tryz.prog 81 #[.agg #[.int .i64 k, .int .i64 s.S, .int .i64 s.D, .int .u64 s.x, .int .i64 s.tT, .int .i64 s.tI, .bool s.tF, .int .i64 s.c.D, .int .i64 s.c.S, .int .u64 s.c.x, .slice a1 n1 c1, .bool s.c.s, .int .i64 s.l.P, .int .u64 s.l.x, .slice a2 n2 c2, .int .i64 s.t.S, .int .i64 s.t.T, .slice a3 n3 c3, .bool s.t.s, .int .i64 s.f.S, .int .i64 s.f.T, .int .i64 s.f.K, .slice a4 n4 c4, .bool s.f.s, .int .i64 s.r.S, .int .i64 s.r.T, .int .i64 s.r.K, .slice a5 n5 c5, .bool s.r.s]] w fun e w' => e = .returned (.agg #[.int .i64 k, .int .i64 s.S, .int .i64 s.D, .int .u64 s.x, .int .i64 0, .int .i64 0, .bool false, .int .i64 0, .int .i64 0, .int .u64 0, .slice none 0 0, .bool false, .int .i64 0, .int .u64 0, .slice none 0 0, .int .i64 0, .int .i64 0, .slice none 0 0, .bool false, .int .i64 0, .int .i64 0, .int .i64 0, .slice none 0 0, .bool false, .int .i64 0, .int .i64 0, .int .i64 0, .slice none 0 0, .bool false]) ∧ Below w.heap.size w w' := by
  go_enter Tryz.func81, Tryz.ntmps81
  go_upto_region 1 with (fail)
  refine wp_genW (fun w1 => RowAt w.heap.size #[.int .i64 k, .int .i64 s.S, .int .i64 s.D, .int .u64 s.x, .int .i64 s.tT, .int .i64 s.tI, .bool s.tF, .int .i64 s.c.D, .int .i64 s.c.S, .int .u64 s.c.x, .slice a1 n1 c1, .bool s.c.s, .int .i64 s.l.P, .int .u64 s.l.x, .slice a2 n2 c2, .int .i64 s.t.S, .int .i64 s.t.T, .slice a3 n3 c3, .bool s.t.s, .int .i64 s.f.S, .int .i64 s.f.T, .int .i64 s.f.K, .slice a4 n4 c4, .bool s.f.s, .int .i64 s.r.S, .int .i64 s.r.T, .int .i64 s.r.K, .slice a5 n5 c5, .bool s.r.s] w1 ∧ RowAt (w.heap.size + 1) zcSk w1 ∧ Below w.heap.size w w1 ∧ w.heap.size + 2 ≤ w1.heap.size) ⟨(RowAt.new _ _ _).al _, RowAt.new1 _ _ _ _, b2 _ _, by simp⟩ ?_
  rintro w1 ⟨r1, r2, hb, hl⟩
  have R1 := Lib.hid r1
  have Q1 := Lib.hid r2
  have B1 := Lib.hid hb
  have L1 := Lib.hid hl
  clear r1 r2 hb hl
  go_wp2_with (first
    | (refine ldPm (B := #[.int .i64 k, .int .i64 s.S, .int .i64 s.D, .int .u64 s.x]) rfl rfl rfl R1.out rfl (by kernel_rfl) ?_)
    | (refine stWh rfl rfl rfl (RowAt.new w1 _ _) rfl rfl rfl rfl ?_; intro w3 r3 o3; have S3 := Lib.hid r3; have O3 := Lib.hid (Below.trans (b1 _) (o3.1 : Below w1.heap.size _ w3)); have R3 := Lib.hid (R1.out.go O3.out); have Q3 := Lib.hid (Q1.out.go O3.out); have B3 := Lib.hid (bgo B1.out O3.out); clear r3 o3 R1 Q1 B1)
    | (refine ldi (v := .int .i64 k) rfl rfl rfl R3.out rfl ?_)
    | (refine ldSk (B := #[.int .i64 k, .int .i64 s.S, .int .i64 s.D, .int .u64 s.x, .int .i64 0, .int .i64 0, .bool false, .int .i64 0, .int .i64 0, .int .u64 0, .slice none 0 0, .bool false, .int .i64 0, .int .u64 0, .slice none 0 0, .int .i64 0, .int .i64 0, .slice none 0 0, .bool false, .int .i64 0, .int .i64 0, .int .i64 0, .slice none 0 0, .bool false, .int .i64 0, .int .i64 0, .int .i64 0, .slice none 0 0, .bool false]) rfl rfl rfl S3.out rfl (by kernel_rfl) ?_)
    | (refine stWh rfl rfl rfl Q3.out rfl rfl rfl rfl ?_; intro w5 r5 o5; have R5 := Lib.hid r5; have B5 := Lib.hid (B3.out.trans (o5.1.mono (Nat.le_succ _))); clear r5 o5))
  exact ret_row Tryz.results81 rfl rfl R5.out Tryz.underlying48 rfl infSk ⟨rfl, B5.out⟩
theorem on_row (s : SK) (a1 : Option Addr) (n1 c1 : Nat) (a2 : Option Addr) (n2 c2 : Nat) (a3 : Option Addr) (n3 c3 : Nat) (a4 : Option Addr) (n4 c4 : Nat) (a5 : Option Addr) (n5 c5 : Nat) (w : World) :
    Calls Tryz.prog 81 #[.agg (skA s (.slice a1 n1 c1) (.slice a2 n2 c2) (.slice a3 n3 c3) (.slice a4 n4 c4) (.slice a5 n5 c5))] w fun e w' => e = .returned (.agg (onA s (.slice a1 n1 c1) (.slice a2 n2 c2) (.slice a3 n3 c3) (.slice a4 n4 c4) (.slice a5 n5 c5))) ∧ Below w.heap.size w w' := by
  unfold onA onK skA
  dsimp only
  rcases kind_cases s.k with hk | hk | hk | hk | hk | hk | ⟨h1, h2, h3, h4, h5, h6⟩
  · rw [hk]
    simp only [if_true, if_false, CM.none, LL.none, TP.none, FQ.none, RK.none, show ((1 : Int) = 2) = False from by simp, show ((1 : Int) = 3) = False from by simp, show ((1 : Int) = 4) = False from by simp, show ((1 : Int) = 5) = False from by simp, show ((1 : Int) = 6) = False from by simp]
    exact on_k1 s a1 n1 c1 a2 n2 c2 a3 n3 c3 a4 n4 c4 a5 n5 c5 w
  · rw [hk]
    simp only [if_true, if_false, CM.none, LL.none, TP.none, FQ.none, RK.none, show ((2 : Int) = 1) = False from by simp, show ((2 : Int) = 3) = False from by simp, show ((2 : Int) = 4) = False from by simp, show ((2 : Int) = 5) = False from by simp, show ((2 : Int) = 6) = False from by simp]
    exact on_k2 s a1 n1 c1 a2 n2 c2 a3 n3 c3 a4 n4 c4 a5 n5 c5 w
  · rw [hk]
    simp only [if_true, if_false, CM.none, LL.none, TP.none, FQ.none, RK.none, show ((3 : Int) = 1) = False from by simp, show ((3 : Int) = 2) = False from by simp, show ((3 : Int) = 4) = False from by simp, show ((3 : Int) = 5) = False from by simp, show ((3 : Int) = 6) = False from by simp]
    exact on_k3 s a1 n1 c1 a2 n2 c2 a3 n3 c3 a4 n4 c4 a5 n5 c5 w
  · rw [hk]
    simp only [if_true, if_false, CM.none, LL.none, TP.none, FQ.none, RK.none, show ((4 : Int) = 1) = False from by simp, show ((4 : Int) = 2) = False from by simp, show ((4 : Int) = 3) = False from by simp, show ((4 : Int) = 5) = False from by simp, show ((4 : Int) = 6) = False from by simp]
    exact on_k4 s a1 n1 c1 a2 n2 c2 a3 n3 c3 a4 n4 c4 a5 n5 c5 w
  · rw [hk]
    simp only [if_true, if_false, CM.none, LL.none, TP.none, FQ.none, RK.none, show ((5 : Int) = 1) = False from by simp, show ((5 : Int) = 2) = False from by simp, show ((5 : Int) = 3) = False from by simp, show ((5 : Int) = 4) = False from by simp, show ((5 : Int) = 6) = False from by simp]
    exact on_k5 s a1 n1 c1 a2 n2 c2 a3 n3 c3 a4 n4 c4 a5 n5 c5 w
  · rw [hk]
    simp only [if_true, if_false, CM.none, LL.none, TP.none, FQ.none, RK.none, show ((6 : Int) = 1) = False from by simp, show ((6 : Int) = 2) = False from by simp, show ((6 : Int) = 3) = False from by simp, show ((6 : Int) = 4) = False from by simp, show ((6 : Int) = 5) = False from by simp]
    exact on_k6 s a1 n1 c1 a2 n2 c2 a3 n3 c3 a4 n4 c4 a5 n5 c5 w
  · simp only [if_neg h1, if_neg h2, if_neg h3, if_neg h4, if_neg h5, if_neg h6]
    exact on_k7 s s.k h1 h2 h3 h4 h5 h6 a1 n1 c1 a2 n2 c2 a3 n3 c3 a4 n4 c4 a5 n5 c5 w
end Go.Proofs.YtjibbnknliamkaaGreatDoor
