/- AsP: in one text. -/
import Derived.Test.YtjibbnknliamkaaGreatDoorPg00
import Derived.Test.YtjibbnknliamkaaGreatDoorPg01
import Derived.Test.YtjibbnknliamkaaGreatDoorPg02
import Derived.Test.YtjibbnknliamkaaGreatDoorPg03
import Derived.Test.YtjibbnknliamkaaGreatDoorPg04
import Derived.Test.YtjibbnknliamkaaGreatDoorPg05
import Derived.Test.YtjibbnknliamkaaGreatDoorPg06
import Derived.Test.YtjibbnknliamkaaGreatDoorPg07
import Derived.Test.YtjibbnknliamkaaGreatDoorPg08
import Derived.Test.YtjibbnknliamkaaGreatDoorPg09
import Derived.Test.YtjibbnknliamkaaGreatDoorPg10
import Derived.Test.YtjibbnknliamkaaGreatDoorPg11
import Derived.Test.YtjibbnknliamkaaGreatDoorPg12
import Derived.Test.YtjibbnknliamkaaGreatDoorPg13
import Derived.Test.YtjibbnknliamkaaGreatDoorPg14
import Derived.Test.YtjibbnknliamkaaGreatDoorPg15
import Derived.Test.YtjibbnknliamkaaGreatDoorPg16
import Derived.Test.YtjibbnknliamkaaGreatDoorPg17
import Derived.Test.YtjibbnknliamkaaGreatDoorPg18
import Derived.Test.YtjibbnknliamkaaGreatDoorPg19
import Derived.Test.YtjibbnknliamkaaGreatDoorPg20
import Derived.Test.YtjibbnknliamkaaGreatDoorPg21
import Derived.Test.YtjibbnknliamkaaGreatDoorPg22
import Derived.Test.YtjibbnknliamkaaGreatDoorPg23
import Derived.Test.YtjibbnknliamkaaGreatDoorPg24
import Derived.Test.YtjibbnknliamkaaGreatDoorPg25
import Derived.Test.YtjibbnknliamkaaGreatDoorPg26
import Derived.Test.YtjibbnknliamkaaGreatDoorPg27
import Derived.Test.YtjibbnknliamkaaGreatDoorPg28
import Derived.Test.YtjibbnknliamkaaGreatDoorPg29
import Derived.Test.YtjibbnknliamkaaGreatDoorPg30
import Derived.Test.YtjibbnknliamkaaGreatDoorPg31
import Derived.Test.YtjibbnknliamkaaGreatDoorPg32
import Derived.Test.YtjibbnknliamkaaGreatDoorPg33
import Derived.Test.YtjibbnknliamkaaGreatDoorPg34
import Derived.Test.YtjibbnknliamkaaGreatDoorPg35
import Derived.Test.YtjibbnknliamkaaGreatDoorPg36
import Derived.Test.YtjibbnknliamkaaGreatDoorPg37
import Derived.Test.YtjibbnknliamkaaGreatDoorQh00
import Derived.BigRegion
namespace Go.Proofs.YtjibbnknliamkaaGreatDoor
open Go Go.RowKit
set_option linter.unusedVariables false
set_option linter.unusedSimpArgs false
theorem infEn : (Tryz.prog.info? 64).map (·.size) = some 3 := by kernel_rfl
def zcEn : Array Value := #[.string ByteArray.empty, .int .i64 0, .int .i64 0]
theorem qr_tot : qrE 1 ByteArray.empty 0 0 0 = 0 := by simp [qrE, qrU, qrS, emp_list2]
theorem qr_pnt {K : ByteArray} (h : keyB (byt K) = true) : qrE 2 K 0 0 0 = 0 := by simp [qrE, qrU, qrS, h]
set_option maxRecDepth 100000 in
set_option maxHeartbeats 2000000 in
theorem fd_top (t : TP) (a1 : Option Addr) (c1 : Nat) (a2 : Option Addr) (c2 : Nat) (a3 : Option Addr) (c3 : Nat) (a4 : Option Addr) (c4 : Nat) (a5 : Option Addr) (c5 : Nat) (K : ByteArray) (w : World) (h : RowsK (fmO t) (.slice a1 0 c1) (.slice a2 0 c2) (.slice a3 t.L.length c3) (.slice a4 0 c4) (.slice a5 0 c5) w) (hw : WfK (fmO t)) (hval : valE t.S t.T t.L = 0) (hk : keyB (byt K) = true) (hks : K.size ≤ maxLen) :
    Calls Tryz.prog 69 #[.agg #[.int .i64 4, .int .i64 t.S, .int .i64 0, .int .u64 0, .int .i64 0, .int .i64 0, .bool false, .int .i64 0, .int .i64 0, .int .u64 0, .slice a1 0 c1, .bool false, .int .i64 0, .int .u64 0, .slice a2 0 c2, .int .i64 t.S, .int .i64 t.T, .slice a3 t.L.length c3, .bool t.s, .int .i64 0, .int .i64 0, .int .i64 0, .slice a4 0 c4, .bool false, .int .i64 0, .int .i64 0, .int .i64 0, .slice a5 0 c5, .bool false], .string K] w fun e w' => e = .returned (.tuple #[.agg #[.string (findX t.S t.T t.L K).k, .int .i64 (findX t.S t.T t.L K).c, .int .i64 (findX t.S t.T t.L K).e], .int .i64 0]) ∧ Below w.heap.size w w' := by
  have HF : Hid (∀ w' : World, Below w.heap.size w w' → Calls Tryz.prog 112 #[.agg #[.int .i64 t.S, .int .i64 t.T, .slice a3 t.L.length c3, .bool t.s], .string K] w' fun e w2 => ∃ p : Bool, e = .returned (.tuple #[.agg #[.string (findX t.S t.T t.L K).k, .int .i64 (findX t.S t.T t.L K).c, .int .i64 (findX t.S t.T t.L K).e], .bool p, .int .i64 0]) ∧ Below w'.heap.size w' w2) := Lib.hid (fun w' hb => by
    have := pfind_any t.S t.T t.L t.s K a3 t.L.length c3 w' hw.tS.1 hw.tS.2 hw.tt.1 hw.tt.2 hks (h.2.2.1.below hb) hw.tL
    rw [show findE t.S t.T t.L K = 0 by unfold findE; rw [if_neg (fun hn => hn hval), if_neg (by rw [hk]; simp)]] at this
    exact this.mono (fun e w2 he => ⟨_, he⟩))
  clear h hw hval hk
  generalize (findX t.S t.T t.L K).c = V at *
  generalize (findX t.S t.T t.L K).e = E at *
  generalize (findX t.S t.T t.L K).k = K2 at *
  go_enter Tryz.func69, Tryz.ntmps69
  go_upto_region 1 with (fail)
  refine wp_genW (fun w1 => RowAt w.heap.size #[.int .i64 4, .int .i64 t.S, .int .i64 0, .int .u64 0, .int .i64 0, .int .i64 0, .bool false, .int .i64 0, .int .i64 0, .int .u64 0, .slice a1 0 c1, .bool false, .int .i64 0, .int .u64 0, .slice a2 0 c2, .int .i64 t.S, .int .i64 t.T, .slice a3 t.L.length c3, .bool t.s, .int .i64 0, .int .i64 0, .int .i64 0, .slice a4 0 c4, .bool false, .int .i64 0, .int .i64 0, .int .i64 0, .slice a5 0 c5, .bool false] w1 ∧ RowAt (w.heap.size + 1) zcEn w1 ∧ Below w.heap.size w w1) ⟨(RowAt.new _ _ _).al _, RowAt.new1 _ _ _ _, b2 _ _⟩ ?_
  rintro w1 ⟨r1, r2, hb⟩
  have R1 := Lib.hid r1
  have Q1 := Lib.hid r2
  have B1 := Lib.hid hb
  clear r1 r2 hb
  go_wp2_with (first
    | (refine ldi (v := .int .i64 4) rfl rfl rfl R1.out rfl ?_)
    | (refine ldTo (B := #[.int .i64 t.S, .int .i64 t.T, .slice a3 t.L.length c3, .bool t.s]) rfl rfl rfl R1.out rfl (by kernel_rfl) ?_)
    | (go_at_call 112; (with_reducible refine (HF.out _ B1.out).mono ?_); rintro e w2 ⟨p, rfl, hb2⟩; have Q2 := Lib.hid (Q1.out.go hb2); have B2 := Lib.hid (bgo B1.out hb2); clear hb2 Q1 B1 R1)
    | (refine wp_whole (B := #[.string K2, .int .i64 V, .int .i64 E]) rfl rfl rfl Q2.out rfl infEn (all_one rfl) rfl ?_; intro w3 r3 o3; have Q3 := Lib.hid r3; have B3 := Lib.hid (B2.out.trans (o3.1.mono (Nat.le_succ _))); clear r3 o3)
    | (refine wp_part (B := #[.string K2, .int .i64 V, .int .i64 E]) rfl rfl rfl Q3.out Tryz.underlying64 rfl infEn rfl ?_)
    | (refine wp_whole (B := #[.string K2, .int .i64 V, .int .i64 E]) rfl rfl rfl Q3.out rfl infEn (all_one rfl) rfl ?_; intro w4 r4 o4; have Q4 := Lib.hid r4; have B4 := Lib.hid (B3.out.trans (o4.1.mono (Nat.le_succ _))); clear r4 o4))
  exact ret_row2 Tryz.results69 rfl rfl rfl Q4.out Tryz.underlying64 rfl infEn ⟨rfl, B4.out⟩
set_option maxRecDepth 100000 in
set_option maxHeartbeats 2000000 in
theorem to_top (t : TP) (a1 : Option Addr) (c1 : Nat) (a2 : Option Addr) (c2 : Nat) (a3 : Option Addr) (c3 : Nat) (a4 : Option Addr) (c4 : Nat) (a5 : Option Addr) (c5 : Nat) (w : World) :
    Calls Tryz.prog 68 #[.agg #[.int .i64 4, .int .i64 t.S, .int .i64 0, .int .u64 0, .int .i64 0, .int .i64 0, .bool false, .int .i64 0, .int .i64 0, .int .u64 0, .slice a1 0 c1, .bool false, .int .i64 0, .int .u64 0, .slice a2 0 c2, .int .i64 t.S, .int .i64 t.T, .slice a3 t.L.length c3, .bool t.s, .int .i64 0, .int .i64 0, .int .i64 0, .slice a4 0 c4, .bool false, .int .i64 0, .int .i64 0, .int .i64 0, .slice a5 0 c5, .bool false]] w fun e w' => e = .returned (.int .i64 t.T) ∧ Below w.heap.size w w' := by
  go_enter Tryz.func68, Tryz.ntmps68
  go_upto_region 1 with (fail)
  refine wp_genW (fun w1 => RowAt w.heap.size #[.int .i64 4, .int .i64 t.S, .int .i64 0, .int .u64 0, .int .i64 0, .int .i64 0, .bool false, .int .i64 0, .int .i64 0, .int .u64 0, .slice a1 0 c1, .bool false, .int .i64 0, .int .u64 0, .slice a2 0 c2, .int .i64 t.S, .int .i64 t.T, .slice a3 t.L.length c3, .bool t.s, .int .i64 0, .int .i64 0, .int .i64 0, .slice a4 0 c4, .bool false, .int .i64 0, .int .i64 0, .int .i64 0, .slice a5 0 c5, .bool false] w1 ∧ Below w.heap.size w w1) ⟨RowAt.new _ _ _, b1 _⟩ ?_
  rintro w1 ⟨r1, hb⟩
  have R1 := Lib.hid r1
  have B1 := Lib.hid hb
  clear r1 hb
  go_wp2_with (first
    | (refine ldi (v := .int .i64 4) rfl rfl rfl R1.out rfl ?_)
    | (refine ldi (v := .int .i64 t.T) rfl rfl rfl R1.out rfl ?_))
  go_ret
  exact ⟨rfl, B1.out⟩
set_option maxRecDepth 100000 in
set_option maxHeartbeats 2000000 in
theorem an1_top (t : TP) (a1 : Option Addr) (c1 : Nat) (a2 : Option Addr) (c2 : Nat) (a3 : Option Addr) (c3 : Nat) (a4 : Option Addr) (c4 : Nat) (a5 : Option Addr) (c5 : Nat) (w : World) :
    Calls Tryz.prog 35 #[.agg #[.int .i64 4, .int .i64 t.S, .int .i64 0, .int .u64 0, .int .i64 0, .int .i64 0, .bool false, .int .i64 0, .int .i64 0, .int .u64 0, .slice a1 0 c1, .bool false, .int .i64 0, .int .u64 0, .slice a2 0 c2, .int .i64 t.S, .int .i64 t.T, .slice a3 t.L.length c3, .bool t.s, .int .i64 0, .int .i64 0, .int .i64 0, .slice a4 0 c4, .bool false, .int .i64 0, .int .i64 0, .int .i64 0, .slice a5 0 c5, .bool false], .agg #[.int .i64 1, .string ByteArray.empty, .int .i64 0, .int .i64 0, .int .i64 0]] w fun e w' => e = .returned (.tuple #[.agg #[.int .i64 t.T, .int .i64 0, .string ByteArray.empty, .slice none 0 0, .slice none 0 0, .bool false], .int .i64 0]) ∧ Below w.heap.size w w' := by
  have HT := Lib.hid (fun w => to_top t a1 c1 a2 c2 a3 c3 a4 c4 a5 c5 w)
  go_enter Tryz.func35, Tryz.ntmps35
  go_upto_region 1 with (fail)
  refine wp_genW (fun w1 => RowAt w.heap.size #[.int .i64 4, .int .i64 t.S, .int .i64 0, .int .u64 0, .int .i64 0, .int .i64 0, .bool false, .int .i64 0, .int .i64 0, .int .u64 0, .slice a1 0 c1, .bool false, .int .i64 0, .int .u64 0, .slice a2 0 c2, .int .i64 t.S, .int .i64 t.T, .slice a3 t.L.length c3, .bool t.s, .int .i64 0, .int .i64 0, .int .i64 0, .slice a4 0 c4, .bool false, .int .i64 0, .int .i64 0, .int .i64 0, .slice a5 0 c5, .bool false] w1 ∧ RowAt (w.heap.size + 1) #[.int .i64 1, .string ByteArray.empty, .int .i64 0, .int .i64 0, .int .i64 0] w1 ∧ RowAt (w.heap.size + 1 + 1) zcAn w1 ∧ Below w.heap.size w w1) ⟨((RowAt.new _ _ _).al _).al _, (RowAt.new1 _ _ _ _).al _, RowAt.new2 _ _ _ _ _, b3 _ _ _⟩ ?_
  rintro w1 ⟨r1, r2, r3, hb⟩
  have R1 := Lib.hid r1
  have Q1 := Lib.hid r2
  have Z1 := Lib.hid r3
  have B1 := Lib.hid hb
  clear r1 r2 r3 hb
  go_wp2_with (first
    | (refine ldi (v := .int .i64 1) rfl rfl rfl Q1.out rfl ?_)
    | (refine ldSk (B := #[.int .i64 4, .int .i64 t.S, .int .i64 0, .int .u64 0, .int .i64 0, .int .i64 0, .bool false, .int .i64 0, .int .i64 0, .int .u64 0, .slice a1 0 c1, .bool false, .int .i64 0, .int .u64 0, .slice a2 0 c2, .int .i64 t.S, .int .i64 t.T, .slice a3 t.L.length c3, .bool t.s, .int .i64 0, .int .i64 0, .int .i64 0, .slice a4 0 c4, .bool false, .int .i64 0, .int .i64 0, .int .i64 0, .slice a5 0 c5, .bool false]) rfl rfl rfl R1.out rfl (by kernel_rfl) ?_)
    | (go_at_call 68; (with_reducible refine (HT.out _).mono ?_); rintro e w2 ⟨rfl, hb2⟩; have Z2 := Lib.hid (Z1.out.go hb2); have B2 := Lib.hid (bgo B1.out hb2); clear hb2 R1 Q1 Z1 B1)
    | (refine stci (A' := #[.int .i64 t.T, .int .i64 0, .string ByteArray.empty, .slice none 0 0, .slice none 0 0, .bool false]) rfl rfl rfl Z2.out rfl (show 0 < 6 by decide) rfl ?_; intro w3 r3 o3; have Z3 := Lib.hid r3; have B3 := Lib.hid (B2.out.trans (o3.1.mono (by omega))); clear r3 o3 Z2 B2)
    | (refine ldAn (B := #[.int .i64 t.T, .int .i64 0, .string ByteArray.empty, .slice none 0 0, .slice none 0 0, .bool false]) rfl rfl rfl Z3.out rfl rfl ?_)
    | (refine stAn rfl rfl rfl Z3.out rfl rfl rfl rfl ?_; intro w4 r4 o4; have Z4 := Lib.hid r4; have B4 := Lib.hid (B3.out.trans (o4.1.mono (by omega))); clear r4 o4))
  exact ret_row2 Tryz.results35 rfl rfl rfl Z4.out Tryz.underlying51 rfl infAn ⟨rfl, B4.out⟩
set_option maxRecDepth 100000 in
set_option maxHeartbeats 2000000 in
theorem an2_top (t : TP) (a1 : Option Addr) (c1 : Nat) (a2 : Option Addr) (c2 : Nat) (a3 : Option Addr) (c3 : Nat) (a4 : Option Addr) (c4 : Nat) (a5 : Option Addr) (c5 : Nat) (K : ByteArray) (hw : WfK (fmO t)) (hval : valE t.S t.T t.L = 0) (hk : keyB (byt K) = true) (hks : K.size ≤ maxLen) (w : World) (h : RowsK (fmO t) (.slice a1 0 c1) (.slice a2 0 c2) (.slice a3 t.L.length c3) (.slice a4 0 c4) (.slice a5 0 c5) w) :
    Calls Tryz.prog 35 #[.agg #[.int .i64 4, .int .i64 t.S, .int .i64 0, .int .u64 0, .int .i64 0, .int .i64 0, .bool false, .int .i64 0, .int .i64 0, .int .u64 0, .slice a1 0 c1, .bool false, .int .i64 0, .int .u64 0, .slice a2 0 c2, .int .i64 t.S, .int .i64 t.T, .slice a3 t.L.length c3, .bool t.s, .int .i64 0, .int .i64 0, .int .i64 0, .slice a4 0 c4, .bool false, .int .i64 0, .int .i64 0, .int .i64 0, .slice a5 0 c5, .bool false], .agg #[.int .i64 2, .string K, .int .i64 0, .int .i64 0, .int .i64 0]] w fun e w' => e = .returned (.tuple #[.agg #[.int .i64 (findX t.S t.T t.L K).c, .int .i64 (findX t.S t.T t.L K).e, .string ByteArray.empty, .slice none 0 0, .slice none 0 0, .bool false], .int .i64 0]) ∧ Below w.heap.size w w' := by
  have HT := Lib.hid (fun (w' : World) (hb : Below w.heap.size w w') => fd_top t a1 c1 a2 c2 a3 c3 a4 c4 a5 c5 K w' (h.below hb) hw hval hk hks)
  clear h hw hval hk
  generalize (findX t.S t.T t.L K).c = V at *
  generalize (findX t.S t.T t.L K).e = E at *
  generalize (findX t.S t.T t.L K).k = K2 at *
  go_enter Tryz.func35, Tryz.ntmps35
  go_upto_region 1 with (fail)
  refine wp_genW (fun w1 => RowAt w.heap.size #[.int .i64 4, .int .i64 t.S, .int .i64 0, .int .u64 0, .int .i64 0, .int .i64 0, .bool false, .int .i64 0, .int .i64 0, .int .u64 0, .slice a1 0 c1, .bool false, .int .i64 0, .int .u64 0, .slice a2 0 c2, .int .i64 t.S, .int .i64 t.T, .slice a3 t.L.length c3, .bool t.s, .int .i64 0, .int .i64 0, .int .i64 0, .slice a4 0 c4, .bool false, .int .i64 0, .int .i64 0, .int .i64 0, .slice a5 0 c5, .bool false] w1 ∧ RowAt (w.heap.size + 1) #[.int .i64 2, .string K, .int .i64 0, .int .i64 0, .int .i64 0] w1 ∧ RowAt (w.heap.size + 1 + 1) zcAn w1 ∧ Below w.heap.size w w1) ⟨((RowAt.new _ _ _).al _).al _, (RowAt.new1 _ _ _ _).al _, RowAt.new2 _ _ _ _ _, b3 _ _ _⟩ ?_
  rintro w1 ⟨r1, r2, r3, hb⟩
  have R1 := Lib.hid r1
  have Q1 := Lib.hid r2
  have Z1 := Lib.hid r3
  have B1 := Lib.hid hb
  clear r1 r2 r3 hb
  go_upto_region 6 with (first
    | (refine ldi (v := .int .i64 2) rfl rfl rfl Q1.out rfl ?_))
  refine wp_genW (fun w2 => RowAt w.heap.size #[.int .i64 4, .int .i64 t.S, .int .i64 0, .int .u64 0, .int .i64 0, .int .i64 0, .bool false, .int .i64 0, .int .i64 0, .int .u64 0, .slice a1 0 c1, .bool false, .int .i64 0, .int .u64 0, .slice a2 0 c2, .int .i64 t.S, .int .i64 t.T, .slice a3 t.L.length c3, .bool t.s, .int .i64 0, .int .i64 0, .int .i64 0, .slice a4 0 c4, .bool false, .int .i64 0, .int .i64 0, .int .i64 0, .slice a5 0 c5, .bool false] w2 ∧ RowAt (w.heap.size + 1) #[.int .i64 2, .string K, .int .i64 0, .int .i64 0, .int .i64 0] w2 ∧ RowAt (w.heap.size + 1 + 1) zcAn w2 ∧ RowAt w1.heap.size zcEn w2 ∧ Below w.heap.size w w2) ⟨R1.out.al _, Q1.out.al _, Z1.out.al _, RowAt.new _ _ _, bgo B1.out (b1 _)⟩ ?_
  rintro w2 ⟨r1, r2, r3, r4, hb⟩
  have R2 := Lib.hid r1
  have Q2 := Lib.hid r2
  have Z2 := Lib.hid r3
  have X2 := Lib.hid r4
  have B2 := Lib.hid hb
  have L2 := Lib.hid Z1.out.lt
  clear r1 r2 r3 r4 hb R1 Q1 Z1 B1
  go_upto_region 7 with (first
    | (refine ldSk (B := #[.int .i64 4, .int .i64 t.S, .int .i64 0, .int .u64 0, .int .i64 0, .int .i64 0, .bool false, .int .i64 0, .int .i64 0, .int .u64 0, .slice a1 0 c1, .bool false, .int .i64 0, .int .u64 0, .slice a2 0 c2, .int .i64 t.S, .int .i64 t.T, .slice a3 t.L.length c3, .bool t.s, .int .i64 0, .int .i64 0, .int .i64 0, .slice a4 0 c4, .bool false, .int .i64 0, .int .i64 0, .int .i64 0, .slice a5 0 c5, .bool false]) rfl rfl rfl R2.out rfl (by kernel_rfl) ?_)
    | (refine lds (v := .string K) rfl rfl rfl Q2.out rfl ?_)
    | (go_at_call 69; (with_reducible refine (HT.out _ B2.out).mono ?_); rintro e w3 ⟨rfl, hb3⟩; have Z3 := Lib.hid (Z2.out.go hb3); have X3 := Lib.hid (X2.out.go hb3); have B3 := Lib.hid (bgo B2.out hb3); clear hb3 R2 Q2 Z2 X2 B2)
    | (refine wp_whole (B := #[.string K2, .int .i64 V, .int .i64 E]) rfl rfl rfl X3.out rfl infEn (all_one rfl) rfl ?_; intro w4 r4 o4; have X4 := Lib.hid r4; have Z4' := Lib.hid (Z3.out.oth o4 (by have := L2.out; omega)); have B4' := Lib.hid (B3.out.trans (o4.1.mono (by have := L2.out; omega))); clear r4 o4 X3 Z3 B3))
  have c1' := X4.out.cell (j := 1) (v := .int .i64 V) rfl
  have c2' := X4.out.cell (j := 2) (v := .int .i64 E) rfl
  have d0 := Z4'.out.cell (j := 0) (v := .int .i64 0) rfl
  have d1 := Z4'.out.cell (j := 1) (v := .int .i64 0) rfl
  have f0 := Z4'.out.open_ 0
  have f1 := Z4'.out.open_ 1
  have lt1 := X4.out.lt
  have lt2 := Z4'.out.lt
  have ne1 : w.heap.size + 1 + 1 ≠ w1.heap.size := by have := L2.out; omega
  go_region
  rename_i KK hKK
  clear c1' c2' d0 d1 f0 f1 lt1 lt2
  try simp only [Exit.inBlock, Exit.then]
  refine hKK _ _ ?_
  clear hKK
  refine wp_genW (fun w5 => RowAt (w.heap.size + 1 + 1) #[.int .i64 V, .int .i64 E, .string ByteArray.empty, .slice none 0 0, .slice none 0 0, .bool false] w5 ∧ Below w.heap.size w w5) ⟨RowAt.drew ((Z4'.out.set1 0 (.int .i64 V)).set1 1 (.int .i64 E)), below_drew (bset (bset B4'.out _ _ _ (by omega)) _ _ _ (by omega))⟩ ?_
  rintro w3' ⟨z5, hb5⟩
  have Z3 := Lib.hid z5
  have B3 := Lib.hid hb5
  clear z5 hb5 X4 Z4' B4'
  go_wp2_with (first
    | (refine ldAn (B := #[.int .i64 V, .int .i64 E, .string ByteArray.empty, .slice none 0 0, .slice none 0 0, .bool false]) rfl rfl rfl Z3.out rfl rfl ?_)
    | (refine stAn rfl rfl rfl Z3.out rfl rfl rfl rfl ?_; intro w4 r4 o4; have Z4 := Lib.hid r4; have B4 := Lib.hid (B3.out.trans (o4.1.mono (by omega))); clear r4 o4))
  exact ret_row2 Tryz.results35 rfl rfl rfl Z4.out Tryz.underlying51 rfl infAn ⟨rfl, B4.out⟩
set_option maxRecDepth 100000 in
set_option maxHeartbeats 2000000 in
theorem fd_frq (f : FQ) (a1 : Option Addr) (c1 : Nat) (a2 : Option Addr) (c2 : Nat) (a3 : Option Addr) (c3 : Nat) (a4 : Option Addr) (c4 : Nat) (a5 : Option Addr) (c5 : Nat) (K : ByteArray) (w : World) (h : RowsK (fmQ f) (.slice a1 0 c1) (.slice a2 0 c2) (.slice a3 0 c3) (.slice a4 f.L.length c4) (.slice a5 0 c5) w) (hw : WfK (fmQ f)) (hval : ValQ f.S f.T f.K f.L) (hk : keyB (byt K) = true) (hks : K.size ≤ maxLen) :
    Calls Tryz.prog 69 #[.agg #[.int .i64 5, .int .i64 f.S, .int .i64 0, .int .u64 0, .int .i64 0, .int .i64 0, .bool false, .int .i64 0, .int .i64 0, .int .u64 0, .slice a1 0 c1, .bool false, .int .i64 0, .int .u64 0, .slice a2 0 c2, .int .i64 0, .int .i64 0, .slice a3 0 c3, .bool false, .int .i64 f.S, .int .i64 f.T, .int .i64 f.K, .slice a4 f.L.length c4, .bool f.s, .int .i64 0, .int .i64 0, .int .i64 0, .slice a5 0 c5, .bool false], .string K] w fun e w' => e = .returned (.tuple #[.agg #[.string K, .int .i64 (cntK_2 f.L K), .int .i64 f.K], .int .i64 0]) ∧ Below w.heap.size w w' := by
  have HF : Hid (∀ w' : World, Below w.heap.size w w' → Calls Tryz.prog 113 #[.agg #[.int .i64 f.S, .int .i64 f.T, .int .i64 f.K, .slice a4 f.L.length c4, .bool f.s], .string K] w' fun e w2 => ∃ p : Bool, e = .returned (.tuple #[.agg #[.string K, .int .i64 (cntK_2 f.L K), .int .i64 f.K], .bool p, .int .i64 0]) ∧ Below w'.heap.size w' w2) := Lib.hid (fun w' hb => by
    have := pfindQ_any f K (.agg #[.int .i64 f.S, .int .i64 f.T, .int .i64 f.K, .slice a4 f.L.length c4, .bool f.s]) w' ⟨_, _, _, rfl, h.2.2.2.1.below hb⟩ hval hk hks
    exact this.mono (fun e w2 he => ⟨_, he⟩))
  clear h hw hval hk
  generalize (cntK_2 f.L K) = V at *
  go_enter Tryz.func69, Tryz.ntmps69
  go_upto_region 1 with (fail)
  refine wp_genW (fun w1 => RowAt w.heap.size #[.int .i64 5, .int .i64 f.S, .int .i64 0, .int .u64 0, .int .i64 0, .int .i64 0, .bool false, .int .i64 0, .int .i64 0, .int .u64 0, .slice a1 0 c1, .bool false, .int .i64 0, .int .u64 0, .slice a2 0 c2, .int .i64 0, .int .i64 0, .slice a3 0 c3, .bool false, .int .i64 f.S, .int .i64 f.T, .int .i64 f.K, .slice a4 f.L.length c4, .bool f.s, .int .i64 0, .int .i64 0, .int .i64 0, .slice a5 0 c5, .bool false] w1 ∧ RowAt (w.heap.size + 1) zcEn w1 ∧ Below w.heap.size w w1) ⟨(RowAt.new _ _ _).al _, RowAt.new1 _ _ _ _, b2 _ _⟩ ?_
  rintro w1 ⟨r1, r2, hb⟩
  have R1 := Lib.hid r1
  have Q1 := Lib.hid r2
  have B1 := Lib.hid hb
  clear r1 r2 hb
  go_wp2_with (first
    | (refine ldi (v := .int .i64 5) rfl rfl rfl R1.out rfl ?_)
    | (refine ldFq (B := #[.int .i64 f.S, .int .i64 f.T, .int .i64 f.K, .slice a4 f.L.length c4, .bool f.s]) rfl rfl rfl R1.out rfl (by kernel_rfl) ?_)
    | (go_at_call 113; (with_reducible refine (HF.out _ B1.out).mono ?_); rintro e w2 ⟨p, rfl, hb2⟩; have Q2 := Lib.hid (Q1.out.go hb2); have B2 := Lib.hid (bgo B1.out hb2); clear hb2 Q1 B1 R1)
    | (refine wp_whole (B := #[.string K, .int .i64 V, .int .i64 f.K]) rfl rfl rfl Q2.out rfl infEn (all_one rfl) rfl ?_; intro w3 r3 o3; have Q3 := Lib.hid r3; have B3 := Lib.hid (B2.out.trans (o3.1.mono (Nat.le_succ _))); clear r3 o3)
    | (refine wp_part (B := #[.string K, .int .i64 V, .int .i64 f.K]) rfl rfl rfl Q3.out Tryz.underlying64 rfl infEn rfl ?_)
    | (refine wp_whole (B := #[.string K, .int .i64 V, .int .i64 f.K]) rfl rfl rfl Q3.out rfl infEn (all_one rfl) rfl ?_; intro w4 r4 o4; have Q4 := Lib.hid r4; have B4 := Lib.hid (B3.out.trans (o4.1.mono (Nat.le_succ _))); clear r4 o4))
  exact ret_row2 Tryz.results69 rfl rfl rfl Q4.out Tryz.underlying64 rfl infEn ⟨rfl, B4.out⟩
set_option maxRecDepth 100000 in
set_option maxHeartbeats 2000000 in
theorem to_frq (f : FQ) (a1 : Option Addr) (c1 : Nat) (a2 : Option Addr) (c2 : Nat) (a3 : Option Addr) (c3 : Nat) (a4 : Option Addr) (c4 : Nat) (a5 : Option Addr) (c5 : Nat) (w : World) :
    Calls Tryz.prog 68 #[.agg #[.int .i64 5, .int .i64 f.S, .int .i64 0, .int .u64 0, .int .i64 0, .int .i64 0, .bool false, .int .i64 0, .int .i64 0, .int .u64 0, .slice a1 0 c1, .bool false, .int .i64 0, .int .u64 0, .slice a2 0 c2, .int .i64 0, .int .i64 0, .slice a3 0 c3, .bool false, .int .i64 f.S, .int .i64 f.T, .int .i64 f.K, .slice a4 f.L.length c4, .bool f.s, .int .i64 0, .int .i64 0, .int .i64 0, .slice a5 0 c5, .bool false]] w fun e w' => e = .returned (.int .i64 f.T) ∧ Below w.heap.size w w' := by
  go_enter Tryz.func68, Tryz.ntmps68
  go_upto_region 1 with (fail)
  refine wp_genW (fun w1 => RowAt w.heap.size #[.int .i64 5, .int .i64 f.S, .int .i64 0, .int .u64 0, .int .i64 0, .int .i64 0, .bool false, .int .i64 0, .int .i64 0, .int .u64 0, .slice a1 0 c1, .bool false, .int .i64 0, .int .u64 0, .slice a2 0 c2, .int .i64 0, .int .i64 0, .slice a3 0 c3, .bool false, .int .i64 f.S, .int .i64 f.T, .int .i64 f.K, .slice a4 f.L.length c4, .bool f.s, .int .i64 0, .int .i64 0, .int .i64 0, .slice a5 0 c5, .bool false] w1 ∧ Below w.heap.size w w1) ⟨RowAt.new _ _ _, b1 _⟩ ?_
  rintro w1 ⟨r1, hb⟩
  have R1 := Lib.hid r1
  have B1 := Lib.hid hb
  clear r1 hb
  go_wp2_with (first
    | (refine ldi (v := .int .i64 5) rfl rfl rfl R1.out rfl ?_)
    | (refine ldi (v := .int .i64 f.T) rfl rfl rfl R1.out rfl ?_))
  go_ret
  exact ⟨rfl, B1.out⟩
set_option maxRecDepth 100000 in
set_option maxHeartbeats 2000000 in
theorem an1_frq (f : FQ) (a1 : Option Addr) (c1 : Nat) (a2 : Option Addr) (c2 : Nat) (a3 : Option Addr) (c3 : Nat) (a4 : Option Addr) (c4 : Nat) (a5 : Option Addr) (c5 : Nat) (w : World) :
    Calls Tryz.prog 35 #[.agg #[.int .i64 5, .int .i64 f.S, .int .i64 0, .int .u64 0, .int .i64 0, .int .i64 0, .bool false, .int .i64 0, .int .i64 0, .int .u64 0, .slice a1 0 c1, .bool false, .int .i64 0, .int .u64 0, .slice a2 0 c2, .int .i64 0, .int .i64 0, .slice a3 0 c3, .bool false, .int .i64 f.S, .int .i64 f.T, .int .i64 f.K, .slice a4 f.L.length c4, .bool f.s, .int .i64 0, .int .i64 0, .int .i64 0, .slice a5 0 c5, .bool false], .agg #[.int .i64 1, .string ByteArray.empty, .int .i64 0, .int .i64 0, .int .i64 0]] w fun e w' => e = .returned (.tuple #[.agg #[.int .i64 f.T, .int .i64 0, .string ByteArray.empty, .slice none 0 0, .slice none 0 0, .bool false], .int .i64 0]) ∧ Below w.heap.size w w' := by
  have HT := Lib.hid (fun w => to_frq f a1 c1 a2 c2 a3 c3 a4 c4 a5 c5 w)
  go_enter Tryz.func35, Tryz.ntmps35
  go_upto_region 1 with (fail)
  refine wp_genW (fun w1 => RowAt w.heap.size #[.int .i64 5, .int .i64 f.S, .int .i64 0, .int .u64 0, .int .i64 0, .int .i64 0, .bool false, .int .i64 0, .int .i64 0, .int .u64 0, .slice a1 0 c1, .bool false, .int .i64 0, .int .u64 0, .slice a2 0 c2, .int .i64 0, .int .i64 0, .slice a3 0 c3, .bool false, .int .i64 f.S, .int .i64 f.T, .int .i64 f.K, .slice a4 f.L.length c4, .bool f.s, .int .i64 0, .int .i64 0, .int .i64 0, .slice a5 0 c5, .bool false] w1 ∧ RowAt (w.heap.size + 1) #[.int .i64 1, .string ByteArray.empty, .int .i64 0, .int .i64 0, .int .i64 0] w1 ∧ RowAt (w.heap.size + 1 + 1) zcAn w1 ∧ Below w.heap.size w w1) ⟨((RowAt.new _ _ _).al _).al _, (RowAt.new1 _ _ _ _).al _, RowAt.new2 _ _ _ _ _, b3 _ _ _⟩ ?_
  rintro w1 ⟨r1, r2, r3, hb⟩
  have R1 := Lib.hid r1
  have Q1 := Lib.hid r2
  have Z1 := Lib.hid r3
  have B1 := Lib.hid hb
  clear r1 r2 r3 hb
  go_wp2_with (first
    | (refine ldi (v := .int .i64 1) rfl rfl rfl Q1.out rfl ?_)
    | (refine ldSk (B := #[.int .i64 5, .int .i64 f.S, .int .i64 0, .int .u64 0, .int .i64 0, .int .i64 0, .bool false, .int .i64 0, .int .i64 0, .int .u64 0, .slice a1 0 c1, .bool false, .int .i64 0, .int .u64 0, .slice a2 0 c2, .int .i64 0, .int .i64 0, .slice a3 0 c3, .bool false, .int .i64 f.S, .int .i64 f.T, .int .i64 f.K, .slice a4 f.L.length c4, .bool f.s, .int .i64 0, .int .i64 0, .int .i64 0, .slice a5 0 c5, .bool false]) rfl rfl rfl R1.out rfl (by kernel_rfl) ?_)
    | (go_at_call 68; (with_reducible refine (HT.out _).mono ?_); rintro e w2 ⟨rfl, hb2⟩; have Z2 := Lib.hid (Z1.out.go hb2); have B2 := Lib.hid (bgo B1.out hb2); clear hb2 R1 Q1 Z1 B1)
    | (refine stci (A' := #[.int .i64 f.T, .int .i64 0, .string ByteArray.empty, .slice none 0 0, .slice none 0 0, .bool false]) rfl rfl rfl Z2.out rfl (show 0 < 6 by decide) rfl ?_; intro w3 r3 o3; have Z3 := Lib.hid r3; have B3 := Lib.hid (B2.out.trans (o3.1.mono (by omega))); clear r3 o3 Z2 B2)
    | (refine ldAn (B := #[.int .i64 f.T, .int .i64 0, .string ByteArray.empty, .slice none 0 0, .slice none 0 0, .bool false]) rfl rfl rfl Z3.out rfl rfl ?_)
    | (refine stAn rfl rfl rfl Z3.out rfl rfl rfl rfl ?_; intro w4 r4 o4; have Z4 := Lib.hid r4; have B4 := Lib.hid (B3.out.trans (o4.1.mono (by omega))); clear r4 o4))
  exact ret_row2 Tryz.results35 rfl rfl rfl Z4.out Tryz.underlying51 rfl infAn ⟨rfl, B4.out⟩
set_option maxRecDepth 100000 in
set_option maxHeartbeats 2000000 in
theorem an2_frq (f : FQ) (a1 : Option Addr) (c1 : Nat) (a2 : Option Addr) (c2 : Nat) (a3 : Option Addr) (c3 : Nat) (a4 : Option Addr) (c4 : Nat) (a5 : Option Addr) (c5 : Nat) (K : ByteArray) (hw : WfK (fmQ f)) (hval : ValQ f.S f.T f.K f.L) (hk : keyB (byt K) = true) (hks : K.size ≤ maxLen) (w : World) (h : RowsK (fmQ f) (.slice a1 0 c1) (.slice a2 0 c2) (.slice a3 0 c3) (.slice a4 f.L.length c4) (.slice a5 0 c5) w) :
    Calls Tryz.prog 35 #[.agg #[.int .i64 5, .int .i64 f.S, .int .i64 0, .int .u64 0, .int .i64 0, .int .i64 0, .bool false, .int .i64 0, .int .i64 0, .int .u64 0, .slice a1 0 c1, .bool false, .int .i64 0, .int .u64 0, .slice a2 0 c2, .int .i64 0, .int .i64 0, .slice a3 0 c3, .bool false, .int .i64 f.S, .int .i64 f.T, .int .i64 f.K, .slice a4 f.L.length c4, .bool f.s, .int .i64 0, .int .i64 0, .int .i64 0, .slice a5 0 c5, .bool false], .agg #[.int .i64 2, .string K, .int .i64 0, .int .i64 0, .int .i64 0]] w fun e w' => e = .returned (.tuple #[.agg #[.int .i64 (cntK_2 f.L K), .int .i64 f.K, .string ByteArray.empty, .slice none 0 0, .slice none 0 0, .bool false], .int .i64 0]) ∧ Below w.heap.size w w' := by
  have HT := Lib.hid (fun (w' : World) (hb : Below w.heap.size w w') => fd_frq f a1 c1 a2 c2 a3 c3 a4 c4 a5 c5 K w' (h.below hb) hw hval hk hks)
  clear h hw hval hk
  generalize (cntK_2 f.L K) = V at *
  go_enter Tryz.func35, Tryz.ntmps35
  go_upto_region 1 with (fail)
  refine wp_genW (fun w1 => RowAt w.heap.size #[.int .i64 5, .int .i64 f.S, .int .i64 0, .int .u64 0, .int .i64 0, .int .i64 0, .bool false, .int .i64 0, .int .i64 0, .int .u64 0, .slice a1 0 c1, .bool false, .int .i64 0, .int .u64 0, .slice a2 0 c2, .int .i64 0, .int .i64 0, .slice a3 0 c3, .bool false, .int .i64 f.S, .int .i64 f.T, .int .i64 f.K, .slice a4 f.L.length c4, .bool f.s, .int .i64 0, .int .i64 0, .int .i64 0, .slice a5 0 c5, .bool false] w1 ∧ RowAt (w.heap.size + 1) #[.int .i64 2, .string K, .int .i64 0, .int .i64 0, .int .i64 0] w1 ∧ RowAt (w.heap.size + 1 + 1) zcAn w1 ∧ Below w.heap.size w w1) ⟨((RowAt.new _ _ _).al _).al _, (RowAt.new1 _ _ _ _).al _, RowAt.new2 _ _ _ _ _, b3 _ _ _⟩ ?_
  rintro w1 ⟨r1, r2, r3, hb⟩
  have R1 := Lib.hid r1
  have Q1 := Lib.hid r2
  have Z1 := Lib.hid r3
  have B1 := Lib.hid hb
  clear r1 r2 r3 hb
  go_upto_region 6 with (first
    | (refine ldi (v := .int .i64 2) rfl rfl rfl Q1.out rfl ?_))
  refine wp_genW (fun w2 => RowAt w.heap.size #[.int .i64 5, .int .i64 f.S, .int .i64 0, .int .u64 0, .int .i64 0, .int .i64 0, .bool false, .int .i64 0, .int .i64 0, .int .u64 0, .slice a1 0 c1, .bool false, .int .i64 0, .int .u64 0, .slice a2 0 c2, .int .i64 0, .int .i64 0, .slice a3 0 c3, .bool false, .int .i64 f.S, .int .i64 f.T, .int .i64 f.K, .slice a4 f.L.length c4, .bool f.s, .int .i64 0, .int .i64 0, .int .i64 0, .slice a5 0 c5, .bool false] w2 ∧ RowAt (w.heap.size + 1) #[.int .i64 2, .string K, .int .i64 0, .int .i64 0, .int .i64 0] w2 ∧ RowAt (w.heap.size + 1 + 1) zcAn w2 ∧ RowAt w1.heap.size zcEn w2 ∧ Below w.heap.size w w2) ⟨R1.out.al _, Q1.out.al _, Z1.out.al _, RowAt.new _ _ _, bgo B1.out (b1 _)⟩ ?_
  rintro w2 ⟨r1, r2, r3, r4, hb⟩
  have R2 := Lib.hid r1
  have Q2 := Lib.hid r2
  have Z2 := Lib.hid r3
  have X2 := Lib.hid r4
  have B2 := Lib.hid hb
  have L2 := Lib.hid Z1.out.lt
  clear r1 r2 r3 r4 hb R1 Q1 Z1 B1
  go_upto_region 7 with (first
    | (refine ldSk (B := #[.int .i64 5, .int .i64 f.S, .int .i64 0, .int .u64 0, .int .i64 0, .int .i64 0, .bool false, .int .i64 0, .int .i64 0, .int .u64 0, .slice a1 0 c1, .bool false, .int .i64 0, .int .u64 0, .slice a2 0 c2, .int .i64 0, .int .i64 0, .slice a3 0 c3, .bool false, .int .i64 f.S, .int .i64 f.T, .int .i64 f.K, .slice a4 f.L.length c4, .bool f.s, .int .i64 0, .int .i64 0, .int .i64 0, .slice a5 0 c5, .bool false]) rfl rfl rfl R2.out rfl (by kernel_rfl) ?_)
    | (refine lds (v := .string K) rfl rfl rfl Q2.out rfl ?_)
    | (go_at_call 69; (with_reducible refine (HT.out _ B2.out).mono ?_); rintro e w3 ⟨rfl, hb3⟩; have Z3 := Lib.hid (Z2.out.go hb3); have X3 := Lib.hid (X2.out.go hb3); have B3 := Lib.hid (bgo B2.out hb3); clear hb3 R2 Q2 Z2 X2 B2)
    | (refine wp_whole (B := #[.string K, .int .i64 V, .int .i64 f.K]) rfl rfl rfl X3.out rfl infEn (all_one rfl) rfl ?_; intro w4 r4 o4; have X4 := Lib.hid r4; have Z4' := Lib.hid (Z3.out.oth o4 (by have := L2.out; omega)); have B4' := Lib.hid (B3.out.trans (o4.1.mono (by have := L2.out; omega))); clear r4 o4 X3 Z3 B3))
  have c1' := X4.out.cell (j := 1) (v := .int .i64 V) rfl
  have c2' := X4.out.cell (j := 2) (v := .int .i64 f.K) rfl
  have d0 := Z4'.out.cell (j := 0) (v := .int .i64 0) rfl
  have d1 := Z4'.out.cell (j := 1) (v := .int .i64 0) rfl
  have f0 := Z4'.out.open_ 0
  have f1 := Z4'.out.open_ 1
  have lt1 := X4.out.lt
  have lt2 := Z4'.out.lt
  have ne1 : w.heap.size + 1 + 1 ≠ w1.heap.size := by have := L2.out; omega
  go_region
  rename_i KK hKK
  clear c1' c2' d0 d1 f0 f1 lt1 lt2
  try simp only [Exit.inBlock, Exit.then]
  refine hKK _ _ ?_
  clear hKK
  refine wp_genW (fun w5 => RowAt (w.heap.size + 1 + 1) #[.int .i64 V, .int .i64 f.K, .string ByteArray.empty, .slice none 0 0, .slice none 0 0, .bool false] w5 ∧ Below w.heap.size w w5) ⟨RowAt.drew ((Z4'.out.set1 0 (.int .i64 V)).set1 1 (.int .i64 f.K)), below_drew (bset (bset B4'.out _ _ _ (by omega)) _ _ _ (by omega))⟩ ?_
  rintro w3' ⟨z5, hb5⟩
  have Z3 := Lib.hid z5
  have B3 := Lib.hid hb5
  clear z5 hb5 X4 Z4' B4'
  go_wp2_with (first
    | (refine ldAn (B := #[.int .i64 V, .int .i64 f.K, .string ByteArray.empty, .slice none 0 0, .slice none 0 0, .bool false]) rfl rfl rfl Z3.out rfl rfl ?_)
    | (refine stAn rfl rfl rfl Z3.out rfl rfl rfl rfl ?_; intro w4 r4 o4; have Z4 := Lib.hid r4; have B4 := Lib.hid (B3.out.trans (o4.1.mono (by omega))); clear r4 o4))
  exact ret_row2 Tryz.results35 rfl rfl rfl Z4.out Tryz.underlying51 rfl infAn ⟨rfl, B4.out⟩
set_option maxRecDepth 100000 in
set_option maxHeartbeats 2000000 in
theorem as1_top (t : TP) (a1 : Option Addr) (c1 : Nat) (a2 : Option Addr) (c2 : Nat) (a3 : Option Addr) (c3 : Nat) (a4 : Option Addr) (c4 : Nat) (a5 : Option Addr) (c5 : Nat) (w : World) (h : RowsK (fmO t) (.slice a1 0 c1) (.slice a2 0 c2) (.slice a3 t.L.length c3) (.slice a4 0 c4) (.slice a5 0 c5) w) (hw : WfK (fmO t)) (hv : valK (fmO t) = 0) (ht : SupT w) :
    Calls Tryz.prog 15 #[.agg #[.int .i64 4, .int .i64 t.S, .int .i64 0, .int .u64 0, .int .i64 0, .int .i64 0, .bool false, .int .i64 0, .int .i64 0, .int .u64 0, .slice a1 0 c1, .bool false, .int .i64 0, .int .u64 0, .slice a2 0 c2, .int .i64 t.S, .int .i64 t.T, .slice a3 t.L.length c3, .bool t.s, .int .i64 0, .int .i64 0, .int .i64 0, .slice a4 0 c4, .bool false, .int .i64 0, .int .i64 0, .int .i64 0, .slice a5 0 c5, .bool false], .agg #[.int .i64 1, .string ByteArray.empty, .int .i64 0, .int .i64 0, .int .i64 0]] w fun e w' => e = .returned (.tuple #[.agg #[.int .i64 t.T, .int .i64 0, .string ByteArray.empty, .slice none 0 0, .slice none 0 0, .bool t.s], .int .i64 0]) ∧ Below w.heap.size w w' := by
  have HV : Hid (∀ w' : World, Below w.heap.size w w' → Calls Tryz.prog 34 #[.agg #[.int .i64 4, .int .i64 t.S, .int .i64 0, .int .u64 0, .int .i64 0, .int .i64 0, .bool false, .int .i64 0, .int .i64 0, .int .u64 0, .slice a1 0 c1, .bool false, .int .i64 0, .int .u64 0, .slice a2 0 c2, .int .i64 t.S, .int .i64 t.T, .slice a3 t.L.length c3, .bool t.s, .int .i64 0, .int .i64 0, .int .i64 0, .slice a4 0 c4, .bool false, .int .i64 0, .int .i64 0, .int .i64 0, .slice a5 0 c5, .bool false]] w' fun e w2 => e = .returned (.int .i64 0) ∧ Below w'.heap.size w' w2) := Lib.hid (fun w' hb => by
    have := val_row (fmO t) a1 c1 a2 c2 a3 c3 a4 c4 a5 c5 w' hw (h.below hb)
    rw [hv] at this
    exact this)
  have HQ := Lib.hid (fun w => pqv_any 1 ByteArray.empty 0 0 0 w (by decide))
  rw [qr_tot] at HQ
  have HA : Hid (∀ w' : World, Below w.heap.size w w' → Calls Tryz.prog 35 #[.agg #[.int .i64 4, .int .i64 t.S, .int .i64 0, .int .u64 0, .int .i64 0, .int .i64 0, .bool false, .int .i64 0, .int .i64 0, .int .u64 0, .slice a1 0 c1, .bool false, .int .i64 0, .int .u64 0, .slice a2 0 c2, .int .i64 t.S, .int .i64 t.T, .slice a3 t.L.length c3, .bool t.s, .int .i64 0, .int .i64 0, .int .i64 0, .slice a4 0 c4, .bool false, .int .i64 0, .int .i64 0, .int .i64 0, .slice a5 0 c5, .bool false], .agg #[.int .i64 1, .string ByteArray.empty, .int .i64 0, .int .i64 0, .int .i64 0]] w' fun e w2 => e = .returned (.tuple #[.agg #[.int .i64 t.T, .int .i64 0, .string ByteArray.empty, .slice none 0 0, .slice none 0 0, .bool false], .int .i64 0]) ∧ Below w'.heap.size w' w2) := Lib.hid (fun w' hb => an1_top t a1 c1 a2 c2 a3 c3 a4 c4 a5 c5 w')
  have HS := Lib.hid (fun w => sat_top t a1 c1 a2 c2 a3 c3 a4 c4 a5 c5 w)
  have T0 := Lib.hid ht
  clear h ht hw hv
  go_enter Tryz.func15, Tryz.ntmps15
  go_upto_region 1 with (fail)
  refine wp_genW (fun w1 => RowAt w.heap.size #[.int .i64 4, .int .i64 t.S, .int .i64 0, .int .u64 0, .int .i64 0, .int .i64 0, .bool false, .int .i64 0, .int .i64 0, .int .u64 0, .slice a1 0 c1, .bool false, .int .i64 0, .int .u64 0, .slice a2 0 c2, .int .i64 t.S, .int .i64 t.T, .slice a3 t.L.length c3, .bool t.s, .int .i64 0, .int .i64 0, .int .i64 0, .slice a4 0 c4, .bool false, .int .i64 0, .int .i64 0, .int .i64 0, .slice a5 0 c5, .bool false] w1 ∧ RowAt (w.heap.size + 1) #[.int .i64 1, .string ByteArray.empty, .int .i64 0, .int .i64 0, .int .i64 0] w1 ∧ RowAt (w.heap.size + 1 + 1) zcAn w1 ∧ Below w.heap.size w w1) ⟨((RowAt.new _ _ _).al _).al _, (RowAt.new1 _ _ _ _).al _, RowAt.new2 _ _ _ _ _, b3 _ _ _⟩ ?_
  rintro w1 ⟨r1, r2, r3, hb⟩
  have R1 := Lib.hid r1
  have Q1 := Lib.hid r2
  have Z1 := Lib.hid r3
  have B1 := Lib.hid hb
  clear r1 r2 r3 hb
  go_upto_region 7 with (first
    | (refine ldSk (B := #[.int .i64 4, .int .i64 t.S, .int .i64 0, .int .u64 0, .int .i64 0, .int .i64 0, .bool false, .int .i64 0, .int .i64 0, .int .u64 0, .slice a1 0 c1, .bool false, .int .i64 0, .int .u64 0, .slice a2 0 c2, .int .i64 t.S, .int .i64 t.T, .slice a3 t.L.length c3, .bool t.s, .int .i64 0, .int .i64 0, .int .i64 0, .slice a4 0 c4, .bool false, .int .i64 0, .int .i64 0, .int .i64 0, .slice a5 0 c5, .bool false]) rfl rfl rfl R1.out rfl (by kernel_rfl) ?_)
    | (go_at_call 34; (with_reducible refine (HV.out _ B1.out).mono ?_); rintro e w2 ⟨rfl, hb2⟩; have R2 := Lib.hid (R1.out.go hb2); have Q2 := Lib.hid (Q1.out.go hb2); have Z2 := Lib.hid (Z1.out.go hb2); have B2 := Lib.hid (bgo B1.out hb2); clear hb2 R1 Q1 Z1 B1)
    | (refine ldQr (B := #[.int .i64 1, .string ByteArray.empty, .int .i64 0, .int .i64 0, .int .i64 0]) rfl rfl rfl Q2.out rfl rfl ?_)
    | (go_at_call 11; (with_reducible refine (HQ.out _).mono ?_); rintro e w3 ⟨rfl, hb3⟩; have R3 := Lib.hid (R2.out.go hb3); have Q3 := Lib.hid (Q2.out.go hb3); have Z3 := Lib.hid (Z2.out.go hb3); have B3 := Lib.hid (bgo B2.out hb3); clear hb3 R2 Q2 Z2 B2))
  have c0' := R3.out.cell (j := 0) (v := .int .i64 4) rfl
  have c1' := Q3.out.cell (j := 0) (v := .int .i64 1) rfl
  have lt1 := R3.out.lt
  have lt2 := Q3.out.lt
  have T3 := T0.out.go B3.out
  have c2' : w3.cell? ⟨0, 11, none⟩ = some (.bool true) := T3.2 1 4 _ _ rfl rfl
  have lt3 := T3.1
  go_region
  rename_i K9 hK
  clear c0' c1' c2' lt1 lt2 lt3 T3
  refine hK _ _ ?_
  clear hK
  refine wp_genW (fun w4 => RowAt w.heap.size #[.int .i64 4, .int .i64 t.S, .int .i64 0, .int .u64 0, .int .i64 0, .int .i64 0, .bool false, .int .i64 0, .int .i64 0, .int .u64 0, .slice a1 0 c1, .bool false, .int .i64 0, .int .u64 0, .slice a2 0 c2, .int .i64 t.S, .int .i64 t.T, .slice a3 t.L.length c3, .bool t.s, .int .i64 0, .int .i64 0, .int .i64 0, .slice a4 0 c4, .bool false, .int .i64 0, .int .i64 0, .int .i64 0, .slice a5 0 c5, .bool false] w4 ∧ RowAt (w.heap.size + 1) #[.int .i64 1, .string ByteArray.empty, .int .i64 0, .int .i64 0, .int .i64 0] w4 ∧ RowAt (w.heap.size + 1 + 1) zcAn w4 ∧ Below w.heap.size w w4) ⟨by first | exact R3.out | exact R3.out.drew, by first | exact Q3.out | exact Q3.out.drew, by first | exact Z3.out | exact Z3.out.drew, by first | exact B3.out | exact below_drew B3.out⟩ ?_
  rintro w4 ⟨r4, q4, z4, hb4⟩
  have R4 := Lib.hid r4
  have Q4 := Lib.hid q4
  have Z4 := Lib.hid z4
  have B4 := Lib.hid hb4
  clear r4 q4 z4 hb4 R3 Q3 Z3 B3
  go_wp2_with (first
    | (refine ldSk (B := #[.int .i64 4, .int .i64 t.S, .int .i64 0, .int .u64 0, .int .i64 0, .int .i64 0, .bool false, .int .i64 0, .int .i64 0, .int .u64 0, .slice a1 0 c1, .bool false, .int .i64 0, .int .u64 0, .slice a2 0 c2, .int .i64 t.S, .int .i64 t.T, .slice a3 t.L.length c3, .bool t.s, .int .i64 0, .int .i64 0, .int .i64 0, .slice a4 0 c4, .bool false, .int .i64 0, .int .i64 0, .int .i64 0, .slice a5 0 c5, .bool false]) rfl rfl rfl R4.out rfl (by kernel_rfl) ?_)
    | (refine ldQr (B := #[.int .i64 1, .string ByteArray.empty, .int .i64 0, .int .i64 0, .int .i64 0]) rfl rfl rfl Q4.out rfl rfl ?_)
    | (go_at_call 35; (with_reducible refine (HA.out _ B4.out).mono ?_); rintro e w5 ⟨rfl, hb5⟩; have R5 := Lib.hid (R4.out.go hb5); have Z5 := Lib.hid (Z4.out.go hb5); have B5 := Lib.hid (bgo B4.out hb5); clear hb5 R4 Q4 Z4 B4)
    | (refine stAn rfl rfl rfl (RowAt.new w5 _ _) rfl rfl rfl rfl ?_; intro w6 r6 o6; have S6 := Lib.hid r6; have D6 := Lib.hid (Below.trans (b1 _) (o6.1 : Below w5.heap.size _ w6)); have R6 := Lib.hid (R5.out.go D6.out); have Z6 := Lib.hid (Z5.out.go D6.out); have B6 := Lib.hid (bgo B5.out D6.out); have L6 : Hid (w.heap.size + 1 + 1 < w5.heap.size) := Lib.hid Z5.out.lt; clear r6 o6 D6 R5 B5 Z5)
    | (refine ldSk (B := #[.int .i64 4, .int .i64 t.S, .int .i64 0, .int .u64 0, .int .i64 0, .int .i64 0, .bool false, .int .i64 0, .int .i64 0, .int .u64 0, .slice a1 0 c1, .bool false, .int .i64 0, .int .u64 0, .slice a2 0 c2, .int .i64 t.S, .int .i64 t.T, .slice a3 t.L.length c3, .bool t.s, .int .i64 0, .int .i64 0, .int .i64 0, .slice a4 0 c4, .bool false, .int .i64 0, .int .i64 0, .int .i64 0, .slice a5 0 c5, .bool false]) rfl rfl rfl R6.out rfl (by kernel_rfl) ?_)
    | (go_at_call 36; (with_reducible refine (HS.out _).mono ?_); rintro e w7 ⟨rfl, hb7⟩; have S7 := Lib.hid (S6.out.go hb7); have Z7 := Lib.hid (Z6.out.go hb7); have B7 := Lib.hid (bgo B6.out hb7); clear hb7 R6 S6 Z6 B6)
    | (refine stcb (A' := #[.int .i64 t.T, .int .i64 0, .string ByteArray.empty, .slice none 0 0, .slice none 0 0, .bool t.s]) rfl rfl rfl S7.out rfl (show 5 < 6 by decide) rfl ?_; intro w8 r8 o8; have S8 := Lib.hid r8; have Z8 := Lib.hid (Z7.out.oth o8 (by have := L6.out; omega)); have B8 := Lib.hid (B7.out.trans (o8.1.mono (by have := L6.out; omega))); clear r8 o8 S7 Z7 B7)
    | (refine ldAn (B := #[.int .i64 t.T, .int .i64 0, .string ByteArray.empty, .slice none 0 0, .slice none 0 0, .bool t.s]) rfl rfl rfl S8.out rfl rfl ?_)
    | (refine stAn rfl rfl rfl Z8.out rfl rfl rfl rfl ?_; intro w9 r9 o9; have Z9 := Lib.hid r9; have B9 := Lib.hid (B8.out.trans (o9.1.mono (by omega))); clear r9 o9))
  exact ret_row2 Tryz.results15 rfl rfl rfl Z9.out Tryz.underlying51 rfl infAn ⟨rfl, B9.out⟩
set_option maxRecDepth 100000 in
set_option maxHeartbeats 2000000 in
theorem as2_top (t : TP) (a1 : Option Addr) (c1 : Nat) (a2 : Option Addr) (c2 : Nat) (a3 : Option Addr) (c3 : Nat) (a4 : Option Addr) (c4 : Nat) (a5 : Option Addr) (c5 : Nat) (K : ByteArray) (hval : valE t.S t.T t.L = 0) (hk : keyB (byt K) = true) (hks : K.size ≤ maxLen) (w : World) (h : RowsK (fmO t) (.slice a1 0 c1) (.slice a2 0 c2) (.slice a3 t.L.length c3) (.slice a4 0 c4) (.slice a5 0 c5) w) (hw : WfK (fmO t)) (hv : valK (fmO t) = 0) (ht : SupT w) :
    Calls Tryz.prog 15 #[.agg #[.int .i64 4, .int .i64 t.S, .int .i64 0, .int .u64 0, .int .i64 0, .int .i64 0, .bool false, .int .i64 0, .int .i64 0, .int .u64 0, .slice a1 0 c1, .bool false, .int .i64 0, .int .u64 0, .slice a2 0 c2, .int .i64 t.S, .int .i64 t.T, .slice a3 t.L.length c3, .bool t.s, .int .i64 0, .int .i64 0, .int .i64 0, .slice a4 0 c4, .bool false, .int .i64 0, .int .i64 0, .int .i64 0, .slice a5 0 c5, .bool false], .agg #[.int .i64 2, .string K, .int .i64 0, .int .i64 0, .int .i64 0]] w fun e w' => e = .returned (.tuple #[.agg #[.int .i64 (findX t.S t.T t.L K).c, .int .i64 (findX t.S t.T t.L K).e, .string ByteArray.empty, .slice none 0 0, .slice none 0 0, .bool t.s], .int .i64 0]) ∧ Below w.heap.size w w' := by
  have HV : Hid (∀ w' : World, Below w.heap.size w w' → Calls Tryz.prog 34 #[.agg #[.int .i64 4, .int .i64 t.S, .int .i64 0, .int .u64 0, .int .i64 0, .int .i64 0, .bool false, .int .i64 0, .int .i64 0, .int .u64 0, .slice a1 0 c1, .bool false, .int .i64 0, .int .u64 0, .slice a2 0 c2, .int .i64 t.S, .int .i64 t.T, .slice a3 t.L.length c3, .bool t.s, .int .i64 0, .int .i64 0, .int .i64 0, .slice a4 0 c4, .bool false, .int .i64 0, .int .i64 0, .int .i64 0, .slice a5 0 c5, .bool false]] w' fun e w2 => e = .returned (.int .i64 0) ∧ Below w'.heap.size w' w2) := Lib.hid (fun w' hb => by
    have := val_row (fmO t) a1 c1 a2 c2 a3 c3 a4 c4 a5 c5 w' hw (h.below hb)
    rw [hv] at this
    exact this)
  have HQ := Lib.hid (fun w => pqv_any 2 K 0 0 0 w hks)
  rw [qr_pnt hk] at HQ
  have HA : Hid (∀ w' : World, Below w.heap.size w w' → Calls Tryz.prog 35 #[.agg #[.int .i64 4, .int .i64 t.S, .int .i64 0, .int .u64 0, .int .i64 0, .int .i64 0, .bool false, .int .i64 0, .int .i64 0, .int .u64 0, .slice a1 0 c1, .bool false, .int .i64 0, .int .u64 0, .slice a2 0 c2, .int .i64 t.S, .int .i64 t.T, .slice a3 t.L.length c3, .bool t.s, .int .i64 0, .int .i64 0, .int .i64 0, .slice a4 0 c4, .bool false, .int .i64 0, .int .i64 0, .int .i64 0, .slice a5 0 c5, .bool false], .agg #[.int .i64 2, .string K, .int .i64 0, .int .i64 0, .int .i64 0]] w' fun e w2 => e = .returned (.tuple #[.agg #[.int .i64 (findX t.S t.T t.L K).c, .int .i64 (findX t.S t.T t.L K).e, .string ByteArray.empty, .slice none 0 0, .slice none 0 0, .bool false], .int .i64 0]) ∧ Below w'.heap.size w' w2) := Lib.hid (fun w' hb => an2_top t a1 c1 a2 c2 a3 c3 a4 c4 a5 c5 K hw hval hk hks w' (h.below hb))
  have HS := Lib.hid (fun w => sat_top t a1 c1 a2 c2 a3 c3 a4 c4 a5 c5 w)
  have T0 := Lib.hid ht
  clear h ht hw hv hval hk
  generalize (findX t.S t.T t.L K).c = V at *
  generalize (findX t.S t.T t.L K).e = E at *
  go_enter Tryz.func15, Tryz.ntmps15
  go_upto_region 1 with (fail)
  refine wp_genW (fun w1 => RowAt w.heap.size #[.int .i64 4, .int .i64 t.S, .int .i64 0, .int .u64 0, .int .i64 0, .int .i64 0, .bool false, .int .i64 0, .int .i64 0, .int .u64 0, .slice a1 0 c1, .bool false, .int .i64 0, .int .u64 0, .slice a2 0 c2, .int .i64 t.S, .int .i64 t.T, .slice a3 t.L.length c3, .bool t.s, .int .i64 0, .int .i64 0, .int .i64 0, .slice a4 0 c4, .bool false, .int .i64 0, .int .i64 0, .int .i64 0, .slice a5 0 c5, .bool false] w1 ∧ RowAt (w.heap.size + 1) #[.int .i64 2, .string K, .int .i64 0, .int .i64 0, .int .i64 0] w1 ∧ RowAt (w.heap.size + 1 + 1) zcAn w1 ∧ Below w.heap.size w w1) ⟨((RowAt.new _ _ _).al _).al _, (RowAt.new1 _ _ _ _).al _, RowAt.new2 _ _ _ _ _, b3 _ _ _⟩ ?_
  rintro w1 ⟨r1, r2, r3, hb⟩
  have R1 := Lib.hid r1
  have Q1 := Lib.hid r2
  have Z1 := Lib.hid r3
  have B1 := Lib.hid hb
  clear r1 r2 r3 hb
  go_upto_region 7 with (first
    | (refine ldSk (B := #[.int .i64 4, .int .i64 t.S, .int .i64 0, .int .u64 0, .int .i64 0, .int .i64 0, .bool false, .int .i64 0, .int .i64 0, .int .u64 0, .slice a1 0 c1, .bool false, .int .i64 0, .int .u64 0, .slice a2 0 c2, .int .i64 t.S, .int .i64 t.T, .slice a3 t.L.length c3, .bool t.s, .int .i64 0, .int .i64 0, .int .i64 0, .slice a4 0 c4, .bool false, .int .i64 0, .int .i64 0, .int .i64 0, .slice a5 0 c5, .bool false]) rfl rfl rfl R1.out rfl (by kernel_rfl) ?_)
    | (go_at_call 34; (with_reducible refine (HV.out _ B1.out).mono ?_); rintro e w2 ⟨rfl, hb2⟩; have R2 := Lib.hid (R1.out.go hb2); have Q2 := Lib.hid (Q1.out.go hb2); have Z2 := Lib.hid (Z1.out.go hb2); have B2 := Lib.hid (bgo B1.out hb2); clear hb2 R1 Q1 Z1 B1)
    | (refine ldQr (B := #[.int .i64 2, .string K, .int .i64 0, .int .i64 0, .int .i64 0]) rfl rfl rfl Q2.out rfl rfl ?_)
    | (go_at_call 11; (with_reducible refine (HQ.out _).mono ?_); rintro e w3 ⟨rfl, hb3⟩; have R3 := Lib.hid (R2.out.go hb3); have Q3 := Lib.hid (Q2.out.go hb3); have Z3 := Lib.hid (Z2.out.go hb3); have B3 := Lib.hid (bgo B2.out hb3); clear hb3 R2 Q2 Z2 B2))
  have c0' := R3.out.cell (j := 0) (v := .int .i64 4) rfl
  have c1' := Q3.out.cell (j := 0) (v := .int .i64 2) rfl
  have lt1 := R3.out.lt
  have lt2 := Q3.out.lt
  have T3 := T0.out.go B3.out
  have c2' : w3.cell? ⟨0, 18, none⟩ = some (.bool true) := T3.2 2 4 _ _ rfl rfl
  have lt3 := T3.1
  go_region
  rename_i K9 hK
  clear c0' c1' c2' lt1 lt2 lt3 T3
  refine hK _ _ ?_
  clear hK
  refine wp_genW (fun w4 => RowAt w.heap.size #[.int .i64 4, .int .i64 t.S, .int .i64 0, .int .u64 0, .int .i64 0, .int .i64 0, .bool false, .int .i64 0, .int .i64 0, .int .u64 0, .slice a1 0 c1, .bool false, .int .i64 0, .int .u64 0, .slice a2 0 c2, .int .i64 t.S, .int .i64 t.T, .slice a3 t.L.length c3, .bool t.s, .int .i64 0, .int .i64 0, .int .i64 0, .slice a4 0 c4, .bool false, .int .i64 0, .int .i64 0, .int .i64 0, .slice a5 0 c5, .bool false] w4 ∧ RowAt (w.heap.size + 1) #[.int .i64 2, .string K, .int .i64 0, .int .i64 0, .int .i64 0] w4 ∧ RowAt (w.heap.size + 1 + 1) zcAn w4 ∧ Below w.heap.size w w4) ⟨by first | exact R3.out | exact R3.out.drew, by first | exact Q3.out | exact Q3.out.drew, by first | exact Z3.out | exact Z3.out.drew, by first | exact B3.out | exact below_drew B3.out⟩ ?_
  rintro w4 ⟨r4, q4, z4, hb4⟩
  have R4 := Lib.hid r4
  have Q4 := Lib.hid q4
  have Z4 := Lib.hid z4
  have B4 := Lib.hid hb4
  clear r4 q4 z4 hb4 R3 Q3 Z3 B3
  go_wp2_with (first
    | (refine ldSk (B := #[.int .i64 4, .int .i64 t.S, .int .i64 0, .int .u64 0, .int .i64 0, .int .i64 0, .bool false, .int .i64 0, .int .i64 0, .int .u64 0, .slice a1 0 c1, .bool false, .int .i64 0, .int .u64 0, .slice a2 0 c2, .int .i64 t.S, .int .i64 t.T, .slice a3 t.L.length c3, .bool t.s, .int .i64 0, .int .i64 0, .int .i64 0, .slice a4 0 c4, .bool false, .int .i64 0, .int .i64 0, .int .i64 0, .slice a5 0 c5, .bool false]) rfl rfl rfl R4.out rfl (by kernel_rfl) ?_)
    | (refine ldQr (B := #[.int .i64 2, .string K, .int .i64 0, .int .i64 0, .int .i64 0]) rfl rfl rfl Q4.out rfl rfl ?_)
    | (go_at_call 35; (with_reducible refine (HA.out _ B4.out).mono ?_); rintro e w5 ⟨rfl, hb5⟩; have R5 := Lib.hid (R4.out.go hb5); have Z5 := Lib.hid (Z4.out.go hb5); have B5 := Lib.hid (bgo B4.out hb5); clear hb5 R4 Q4 Z4 B4)
    | (refine stAn rfl rfl rfl (RowAt.new w5 _ _) rfl rfl rfl rfl ?_; intro w6 r6 o6; have S6 := Lib.hid r6; have D6 := Lib.hid (Below.trans (b1 _) (o6.1 : Below w5.heap.size _ w6)); have R6 := Lib.hid (R5.out.go D6.out); have Z6 := Lib.hid (Z5.out.go D6.out); have B6 := Lib.hid (bgo B5.out D6.out); have L6 : Hid (w.heap.size + 1 + 1 < w5.heap.size) := Lib.hid Z5.out.lt; clear r6 o6 D6 R5 B5 Z5)
    | (refine ldSk (B := #[.int .i64 4, .int .i64 t.S, .int .i64 0, .int .u64 0, .int .i64 0, .int .i64 0, .bool false, .int .i64 0, .int .i64 0, .int .u64 0, .slice a1 0 c1, .bool false, .int .i64 0, .int .u64 0, .slice a2 0 c2, .int .i64 t.S, .int .i64 t.T, .slice a3 t.L.length c3, .bool t.s, .int .i64 0, .int .i64 0, .int .i64 0, .slice a4 0 c4, .bool false, .int .i64 0, .int .i64 0, .int .i64 0, .slice a5 0 c5, .bool false]) rfl rfl rfl R6.out rfl (by kernel_rfl) ?_)
    | (go_at_call 36; (with_reducible refine (HS.out _).mono ?_); rintro e w7 ⟨rfl, hb7⟩; have S7 := Lib.hid (S6.out.go hb7); have Z7 := Lib.hid (Z6.out.go hb7); have B7 := Lib.hid (bgo B6.out hb7); clear hb7 R6 S6 Z6 B6)
    | (refine stcb (A' := #[.int .i64 V, .int .i64 E, .string ByteArray.empty, .slice none 0 0, .slice none 0 0, .bool t.s]) rfl rfl rfl S7.out rfl (show 5 < 6 by decide) rfl ?_; intro w8 r8 o8; have S8 := Lib.hid r8; have Z8 := Lib.hid (Z7.out.oth o8 (by have := L6.out; omega)); have B8 := Lib.hid (B7.out.trans (o8.1.mono (by have := L6.out; omega))); clear r8 o8 S7 Z7 B7)
    | (refine ldAn (B := #[.int .i64 V, .int .i64 E, .string ByteArray.empty, .slice none 0 0, .slice none 0 0, .bool t.s]) rfl rfl rfl S8.out rfl rfl ?_)
    | (refine stAn rfl rfl rfl Z8.out rfl rfl rfl rfl ?_; intro w9 r9 o9; have Z9 := Lib.hid r9; have B9 := Lib.hid (B8.out.trans (o9.1.mono (by omega))); clear r9 o9))
  exact ret_row2 Tryz.results15 rfl rfl rfl Z9.out Tryz.underlying51 rfl infAn ⟨rfl, B9.out⟩
set_option maxRecDepth 100000 in
set_option maxHeartbeats 2000000 in
theorem as1_frq (f : FQ) (a1 : Option Addr) (c1 : Nat) (a2 : Option Addr) (c2 : Nat) (a3 : Option Addr) (c3 : Nat) (a4 : Option Addr) (c4 : Nat) (a5 : Option Addr) (c5 : Nat) (w : World) (h : RowsK (fmQ f) (.slice a1 0 c1) (.slice a2 0 c2) (.slice a3 0 c3) (.slice a4 f.L.length c4) (.slice a5 0 c5) w) (hw : WfK (fmQ f)) (hv : valK (fmQ f) = 0) (ht : SupT w) :
    Calls Tryz.prog 15 #[.agg #[.int .i64 5, .int .i64 f.S, .int .i64 0, .int .u64 0, .int .i64 0, .int .i64 0, .bool false, .int .i64 0, .int .i64 0, .int .u64 0, .slice a1 0 c1, .bool false, .int .i64 0, .int .u64 0, .slice a2 0 c2, .int .i64 0, .int .i64 0, .slice a3 0 c3, .bool false, .int .i64 f.S, .int .i64 f.T, .int .i64 f.K, .slice a4 f.L.length c4, .bool f.s, .int .i64 0, .int .i64 0, .int .i64 0, .slice a5 0 c5, .bool false], .agg #[.int .i64 1, .string ByteArray.empty, .int .i64 0, .int .i64 0, .int .i64 0]] w fun e w' => e = .returned (.tuple #[.agg #[.int .i64 f.T, .int .i64 0, .string ByteArray.empty, .slice none 0 0, .slice none 0 0, .bool f.s], .int .i64 0]) ∧ Below w.heap.size w w' := by
  have HV : Hid (∀ w' : World, Below w.heap.size w w' → Calls Tryz.prog 34 #[.agg #[.int .i64 5, .int .i64 f.S, .int .i64 0, .int .u64 0, .int .i64 0, .int .i64 0, .bool false, .int .i64 0, .int .i64 0, .int .u64 0, .slice a1 0 c1, .bool false, .int .i64 0, .int .u64 0, .slice a2 0 c2, .int .i64 0, .int .i64 0, .slice a3 0 c3, .bool false, .int .i64 f.S, .int .i64 f.T, .int .i64 f.K, .slice a4 f.L.length c4, .bool f.s, .int .i64 0, .int .i64 0, .int .i64 0, .slice a5 0 c5, .bool false]] w' fun e w2 => e = .returned (.int .i64 0) ∧ Below w'.heap.size w' w2) := Lib.hid (fun w' hb => by
    have := val_row (fmQ f) a1 c1 a2 c2 a3 c3 a4 c4 a5 c5 w' hw (h.below hb)
    rw [hv] at this
    exact this)
  have HQ := Lib.hid (fun w => pqv_any 1 ByteArray.empty 0 0 0 w (by decide))
  rw [qr_tot] at HQ
  have HA : Hid (∀ w' : World, Below w.heap.size w w' → Calls Tryz.prog 35 #[.agg #[.int .i64 5, .int .i64 f.S, .int .i64 0, .int .u64 0, .int .i64 0, .int .i64 0, .bool false, .int .i64 0, .int .i64 0, .int .u64 0, .slice a1 0 c1, .bool false, .int .i64 0, .int .u64 0, .slice a2 0 c2, .int .i64 0, .int .i64 0, .slice a3 0 c3, .bool false, .int .i64 f.S, .int .i64 f.T, .int .i64 f.K, .slice a4 f.L.length c4, .bool f.s, .int .i64 0, .int .i64 0, .int .i64 0, .slice a5 0 c5, .bool false], .agg #[.int .i64 1, .string ByteArray.empty, .int .i64 0, .int .i64 0, .int .i64 0]] w' fun e w2 => e = .returned (.tuple #[.agg #[.int .i64 f.T, .int .i64 0, .string ByteArray.empty, .slice none 0 0, .slice none 0 0, .bool false], .int .i64 0]) ∧ Below w'.heap.size w' w2) := Lib.hid (fun w' hb => an1_frq f a1 c1 a2 c2 a3 c3 a4 c4 a5 c5 w')
  have HS := Lib.hid (fun w => sat_frq f a1 c1 a2 c2 a3 c3 a4 c4 a5 c5 w)
  have T0 := Lib.hid ht
  clear h ht hw hv
  go_enter Tryz.func15, Tryz.ntmps15
  go_upto_region 1 with (fail)
  refine wp_genW (fun w1 => RowAt w.heap.size #[.int .i64 5, .int .i64 f.S, .int .i64 0, .int .u64 0, .int .i64 0, .int .i64 0, .bool false, .int .i64 0, .int .i64 0, .int .u64 0, .slice a1 0 c1, .bool false, .int .i64 0, .int .u64 0, .slice a2 0 c2, .int .i64 0, .int .i64 0, .slice a3 0 c3, .bool false, .int .i64 f.S, .int .i64 f.T, .int .i64 f.K, .slice a4 f.L.length c4, .bool f.s, .int .i64 0, .int .i64 0, .int .i64 0, .slice a5 0 c5, .bool false] w1 ∧ RowAt (w.heap.size + 1) #[.int .i64 1, .string ByteArray.empty, .int .i64 0, .int .i64 0, .int .i64 0] w1 ∧ RowAt (w.heap.size + 1 + 1) zcAn w1 ∧ Below w.heap.size w w1) ⟨((RowAt.new _ _ _).al _).al _, (RowAt.new1 _ _ _ _).al _, RowAt.new2 _ _ _ _ _, b3 _ _ _⟩ ?_
  rintro w1 ⟨r1, r2, r3, hb⟩
  have R1 := Lib.hid r1
  have Q1 := Lib.hid r2
  have Z1 := Lib.hid r3
  have B1 := Lib.hid hb
  clear r1 r2 r3 hb
  go_upto_region 7 with (first
    | (refine ldSk (B := #[.int .i64 5, .int .i64 f.S, .int .i64 0, .int .u64 0, .int .i64 0, .int .i64 0, .bool false, .int .i64 0, .int .i64 0, .int .u64 0, .slice a1 0 c1, .bool false, .int .i64 0, .int .u64 0, .slice a2 0 c2, .int .i64 0, .int .i64 0, .slice a3 0 c3, .bool false, .int .i64 f.S, .int .i64 f.T, .int .i64 f.K, .slice a4 f.L.length c4, .bool f.s, .int .i64 0, .int .i64 0, .int .i64 0, .slice a5 0 c5, .bool false]) rfl rfl rfl R1.out rfl (by kernel_rfl) ?_)
    | (go_at_call 34; (with_reducible refine (HV.out _ B1.out).mono ?_); rintro e w2 ⟨rfl, hb2⟩; have R2 := Lib.hid (R1.out.go hb2); have Q2 := Lib.hid (Q1.out.go hb2); have Z2 := Lib.hid (Z1.out.go hb2); have B2 := Lib.hid (bgo B1.out hb2); clear hb2 R1 Q1 Z1 B1)
    | (refine ldQr (B := #[.int .i64 1, .string ByteArray.empty, .int .i64 0, .int .i64 0, .int .i64 0]) rfl rfl rfl Q2.out rfl rfl ?_)
    | (go_at_call 11; (with_reducible refine (HQ.out _).mono ?_); rintro e w3 ⟨rfl, hb3⟩; have R3 := Lib.hid (R2.out.go hb3); have Q3 := Lib.hid (Q2.out.go hb3); have Z3 := Lib.hid (Z2.out.go hb3); have B3 := Lib.hid (bgo B2.out hb3); clear hb3 R2 Q2 Z2 B2))
  have c0' := R3.out.cell (j := 0) (v := .int .i64 5) rfl
  have c1' := Q3.out.cell (j := 0) (v := .int .i64 1) rfl
  have lt1 := R3.out.lt
  have lt2 := Q3.out.lt
  have T3 := T0.out.go B3.out
  have c2' : w3.cell? ⟨0, 12, none⟩ = some (.bool true) := T3.2 1 5 _ _ rfl rfl
  have lt3 := T3.1
  go_region
  rename_i K9 hK
  clear c0' c1' c2' lt1 lt2 lt3 T3
  refine hK _ _ ?_
  clear hK
  refine wp_genW (fun w4 => RowAt w.heap.size #[.int .i64 5, .int .i64 f.S, .int .i64 0, .int .u64 0, .int .i64 0, .int .i64 0, .bool false, .int .i64 0, .int .i64 0, .int .u64 0, .slice a1 0 c1, .bool false, .int .i64 0, .int .u64 0, .slice a2 0 c2, .int .i64 0, .int .i64 0, .slice a3 0 c3, .bool false, .int .i64 f.S, .int .i64 f.T, .int .i64 f.K, .slice a4 f.L.length c4, .bool f.s, .int .i64 0, .int .i64 0, .int .i64 0, .slice a5 0 c5, .bool false] w4 ∧ RowAt (w.heap.size + 1) #[.int .i64 1, .string ByteArray.empty, .int .i64 0, .int .i64 0, .int .i64 0] w4 ∧ RowAt (w.heap.size + 1 + 1) zcAn w4 ∧ Below w.heap.size w w4) ⟨by first | exact R3.out | exact R3.out.drew, by first | exact Q3.out | exact Q3.out.drew, by first | exact Z3.out | exact Z3.out.drew, by first | exact B3.out | exact below_drew B3.out⟩ ?_
  rintro w4 ⟨r4, q4, z4, hb4⟩
  have R4 := Lib.hid r4
  have Q4 := Lib.hid q4
  have Z4 := Lib.hid z4
  have B4 := Lib.hid hb4
  clear r4 q4 z4 hb4 R3 Q3 Z3 B3
  go_wp2_with (first
    | (refine ldSk (B := #[.int .i64 5, .int .i64 f.S, .int .i64 0, .int .u64 0, .int .i64 0, .int .i64 0, .bool false, .int .i64 0, .int .i64 0, .int .u64 0, .slice a1 0 c1, .bool false, .int .i64 0, .int .u64 0, .slice a2 0 c2, .int .i64 0, .int .i64 0, .slice a3 0 c3, .bool false, .int .i64 f.S, .int .i64 f.T, .int .i64 f.K, .slice a4 f.L.length c4, .bool f.s, .int .i64 0, .int .i64 0, .int .i64 0, .slice a5 0 c5, .bool false]) rfl rfl rfl R4.out rfl (by kernel_rfl) ?_)
    | (refine ldQr (B := #[.int .i64 1, .string ByteArray.empty, .int .i64 0, .int .i64 0, .int .i64 0]) rfl rfl rfl Q4.out rfl rfl ?_)
    | (go_at_call 35; (with_reducible refine (HA.out _ B4.out).mono ?_); rintro e w5 ⟨rfl, hb5⟩; have R5 := Lib.hid (R4.out.go hb5); have Z5 := Lib.hid (Z4.out.go hb5); have B5 := Lib.hid (bgo B4.out hb5); clear hb5 R4 Q4 Z4 B4)
    | (refine stAn rfl rfl rfl (RowAt.new w5 _ _) rfl rfl rfl rfl ?_; intro w6 r6 o6; have S6 := Lib.hid r6; have D6 := Lib.hid (Below.trans (b1 _) (o6.1 : Below w5.heap.size _ w6)); have R6 := Lib.hid (R5.out.go D6.out); have Z6 := Lib.hid (Z5.out.go D6.out); have B6 := Lib.hid (bgo B5.out D6.out); have L6 : Hid (w.heap.size + 1 + 1 < w5.heap.size) := Lib.hid Z5.out.lt; clear r6 o6 D6 R5 B5 Z5)
    | (refine ldSk (B := #[.int .i64 5, .int .i64 f.S, .int .i64 0, .int .u64 0, .int .i64 0, .int .i64 0, .bool false, .int .i64 0, .int .i64 0, .int .u64 0, .slice a1 0 c1, .bool false, .int .i64 0, .int .u64 0, .slice a2 0 c2, .int .i64 0, .int .i64 0, .slice a3 0 c3, .bool false, .int .i64 f.S, .int .i64 f.T, .int .i64 f.K, .slice a4 f.L.length c4, .bool f.s, .int .i64 0, .int .i64 0, .int .i64 0, .slice a5 0 c5, .bool false]) rfl rfl rfl R6.out rfl (by kernel_rfl) ?_)
    | (go_at_call 36; (with_reducible refine (HS.out _).mono ?_); rintro e w7 ⟨rfl, hb7⟩; have S7 := Lib.hid (S6.out.go hb7); have Z7 := Lib.hid (Z6.out.go hb7); have B7 := Lib.hid (bgo B6.out hb7); clear hb7 R6 S6 Z6 B6)
    | (refine stcb (A' := #[.int .i64 f.T, .int .i64 0, .string ByteArray.empty, .slice none 0 0, .slice none 0 0, .bool f.s]) rfl rfl rfl S7.out rfl (show 5 < 6 by decide) rfl ?_; intro w8 r8 o8; have S8 := Lib.hid r8; have Z8 := Lib.hid (Z7.out.oth o8 (by have := L6.out; omega)); have B8 := Lib.hid (B7.out.trans (o8.1.mono (by have := L6.out; omega))); clear r8 o8 S7 Z7 B7)
    | (refine ldAn (B := #[.int .i64 f.T, .int .i64 0, .string ByteArray.empty, .slice none 0 0, .slice none 0 0, .bool f.s]) rfl rfl rfl S8.out rfl rfl ?_)
    | (refine stAn rfl rfl rfl Z8.out rfl rfl rfl rfl ?_; intro w9 r9 o9; have Z9 := Lib.hid r9; have B9 := Lib.hid (B8.out.trans (o9.1.mono (by omega))); clear r9 o9))
  exact ret_row2 Tryz.results15 rfl rfl rfl Z9.out Tryz.underlying51 rfl infAn ⟨rfl, B9.out⟩
set_option maxRecDepth 100000 in
set_option maxHeartbeats 2000000 in
theorem as2_frq (f : FQ) (a1 : Option Addr) (c1 : Nat) (a2 : Option Addr) (c2 : Nat) (a3 : Option Addr) (c3 : Nat) (a4 : Option Addr) (c4 : Nat) (a5 : Option Addr) (c5 : Nat) (K : ByteArray) (hval : ValQ f.S f.T f.K f.L) (hk : keyB (byt K) = true) (hks : K.size ≤ maxLen) (w : World) (h : RowsK (fmQ f) (.slice a1 0 c1) (.slice a2 0 c2) (.slice a3 0 c3) (.slice a4 f.L.length c4) (.slice a5 0 c5) w) (hw : WfK (fmQ f)) (hv : valK (fmQ f) = 0) (ht : SupT w) :
    Calls Tryz.prog 15 #[.agg #[.int .i64 5, .int .i64 f.S, .int .i64 0, .int .u64 0, .int .i64 0, .int .i64 0, .bool false, .int .i64 0, .int .i64 0, .int .u64 0, .slice a1 0 c1, .bool false, .int .i64 0, .int .u64 0, .slice a2 0 c2, .int .i64 0, .int .i64 0, .slice a3 0 c3, .bool false, .int .i64 f.S, .int .i64 f.T, .int .i64 f.K, .slice a4 f.L.length c4, .bool f.s, .int .i64 0, .int .i64 0, .int .i64 0, .slice a5 0 c5, .bool false], .agg #[.int .i64 2, .string K, .int .i64 0, .int .i64 0, .int .i64 0]] w fun e w' => e = .returned (.tuple #[.agg #[.int .i64 (cntK_2 f.L K), .int .i64 f.K, .string ByteArray.empty, .slice none 0 0, .slice none 0 0, .bool f.s], .int .i64 0]) ∧ Below w.heap.size w w' := by
  have HV : Hid (∀ w' : World, Below w.heap.size w w' → Calls Tryz.prog 34 #[.agg #[.int .i64 5, .int .i64 f.S, .int .i64 0, .int .u64 0, .int .i64 0, .int .i64 0, .bool false, .int .i64 0, .int .i64 0, .int .u64 0, .slice a1 0 c1, .bool false, .int .i64 0, .int .u64 0, .slice a2 0 c2, .int .i64 0, .int .i64 0, .slice a3 0 c3, .bool false, .int .i64 f.S, .int .i64 f.T, .int .i64 f.K, .slice a4 f.L.length c4, .bool f.s, .int .i64 0, .int .i64 0, .int .i64 0, .slice a5 0 c5, .bool false]] w' fun e w2 => e = .returned (.int .i64 0) ∧ Below w'.heap.size w' w2) := Lib.hid (fun w' hb => by
    have := val_row (fmQ f) a1 c1 a2 c2 a3 c3 a4 c4 a5 c5 w' hw (h.below hb)
    rw [hv] at this
    exact this)
  have HQ := Lib.hid (fun w => pqv_any 2 K 0 0 0 w hks)
  rw [qr_pnt hk] at HQ
  have HA : Hid (∀ w' : World, Below w.heap.size w w' → Calls Tryz.prog 35 #[.agg #[.int .i64 5, .int .i64 f.S, .int .i64 0, .int .u64 0, .int .i64 0, .int .i64 0, .bool false, .int .i64 0, .int .i64 0, .int .u64 0, .slice a1 0 c1, .bool false, .int .i64 0, .int .u64 0, .slice a2 0 c2, .int .i64 0, .int .i64 0, .slice a3 0 c3, .bool false, .int .i64 f.S, .int .i64 f.T, .int .i64 f.K, .slice a4 f.L.length c4, .bool f.s, .int .i64 0, .int .i64 0, .int .i64 0, .slice a5 0 c5, .bool false], .agg #[.int .i64 2, .string K, .int .i64 0, .int .i64 0, .int .i64 0]] w' fun e w2 => e = .returned (.tuple #[.agg #[.int .i64 (cntK_2 f.L K), .int .i64 f.K, .string ByteArray.empty, .slice none 0 0, .slice none 0 0, .bool false], .int .i64 0]) ∧ Below w'.heap.size w' w2) := Lib.hid (fun w' hb => an2_frq f a1 c1 a2 c2 a3 c3 a4 c4 a5 c5 K hw hval hk hks w' (h.below hb))
  have HS := Lib.hid (fun w => sat_frq f a1 c1 a2 c2 a3 c3 a4 c4 a5 c5 w)
  have T0 := Lib.hid ht
  clear h ht hw hv hval hk
  generalize (cntK_2 f.L K) = V at *
  go_enter Tryz.func15, Tryz.ntmps15
  go_upto_region 1 with (fail)
  refine wp_genW (fun w1 => RowAt w.heap.size #[.int .i64 5, .int .i64 f.S, .int .i64 0, .int .u64 0, .int .i64 0, .int .i64 0, .bool false, .int .i64 0, .int .i64 0, .int .u64 0, .slice a1 0 c1, .bool false, .int .i64 0, .int .u64 0, .slice a2 0 c2, .int .i64 0, .int .i64 0, .slice a3 0 c3, .bool false, .int .i64 f.S, .int .i64 f.T, .int .i64 f.K, .slice a4 f.L.length c4, .bool f.s, .int .i64 0, .int .i64 0, .int .i64 0, .slice a5 0 c5, .bool false] w1 ∧ RowAt (w.heap.size + 1) #[.int .i64 2, .string K, .int .i64 0, .int .i64 0, .int .i64 0] w1 ∧ RowAt (w.heap.size + 1 + 1) zcAn w1 ∧ Below w.heap.size w w1) ⟨((RowAt.new _ _ _).al _).al _, (RowAt.new1 _ _ _ _).al _, RowAt.new2 _ _ _ _ _, b3 _ _ _⟩ ?_
  rintro w1 ⟨r1, r2, r3, hb⟩
  have R1 := Lib.hid r1
  have Q1 := Lib.hid r2
  have Z1 := Lib.hid r3
  have B1 := Lib.hid hb
  clear r1 r2 r3 hb
  go_upto_region 7 with (first
    | (refine ldSk (B := #[.int .i64 5, .int .i64 f.S, .int .i64 0, .int .u64 0, .int .i64 0, .int .i64 0, .bool false, .int .i64 0, .int .i64 0, .int .u64 0, .slice a1 0 c1, .bool false, .int .i64 0, .int .u64 0, .slice a2 0 c2, .int .i64 0, .int .i64 0, .slice a3 0 c3, .bool false, .int .i64 f.S, .int .i64 f.T, .int .i64 f.K, .slice a4 f.L.length c4, .bool f.s, .int .i64 0, .int .i64 0, .int .i64 0, .slice a5 0 c5, .bool false]) rfl rfl rfl R1.out rfl (by kernel_rfl) ?_)
    | (go_at_call 34; (with_reducible refine (HV.out _ B1.out).mono ?_); rintro e w2 ⟨rfl, hb2⟩; have R2 := Lib.hid (R1.out.go hb2); have Q2 := Lib.hid (Q1.out.go hb2); have Z2 := Lib.hid (Z1.out.go hb2); have B2 := Lib.hid (bgo B1.out hb2); clear hb2 R1 Q1 Z1 B1)
    | (refine ldQr (B := #[.int .i64 2, .string K, .int .i64 0, .int .i64 0, .int .i64 0]) rfl rfl rfl Q2.out rfl rfl ?_)
    | (go_at_call 11; (with_reducible refine (HQ.out _).mono ?_); rintro e w3 ⟨rfl, hb3⟩; have R3 := Lib.hid (R2.out.go hb3); have Q3 := Lib.hid (Q2.out.go hb3); have Z3 := Lib.hid (Z2.out.go hb3); have B3 := Lib.hid (bgo B2.out hb3); clear hb3 R2 Q2 Z2 B2))
  have c0' := R3.out.cell (j := 0) (v := .int .i64 5) rfl
  have c1' := Q3.out.cell (j := 0) (v := .int .i64 2) rfl
  have lt1 := R3.out.lt
  have lt2 := Q3.out.lt
  have T3 := T0.out.go B3.out
  have c2' : w3.cell? ⟨0, 19, none⟩ = some (.bool true) := T3.2 2 5 _ _ rfl rfl
  have lt3 := T3.1
  go_region
  rename_i K9 hK
  clear c0' c1' c2' lt1 lt2 lt3 T3
  refine hK _ _ ?_
  clear hK
  refine wp_genW (fun w4 => RowAt w.heap.size #[.int .i64 5, .int .i64 f.S, .int .i64 0, .int .u64 0, .int .i64 0, .int .i64 0, .bool false, .int .i64 0, .int .i64 0, .int .u64 0, .slice a1 0 c1, .bool false, .int .i64 0, .int .u64 0, .slice a2 0 c2, .int .i64 0, .int .i64 0, .slice a3 0 c3, .bool false, .int .i64 f.S, .int .i64 f.T, .int .i64 f.K, .slice a4 f.L.length c4, .bool f.s, .int .i64 0, .int .i64 0, .int .i64 0, .slice a5 0 c5, .bool false] w4 ∧ RowAt (w.heap.size + 1) #[.int .i64 2, .string K, .int .i64 0, .int .i64 0, .int .i64 0] w4 ∧ RowAt (w.heap.size + 1 + 1) zcAn w4 ∧ Below w.heap.size w w4) ⟨by first | exact R3.out | exact R3.out.drew, by first | exact Q3.out | exact Q3.out.drew, by first | exact Z3.out | exact Z3.out.drew, by first | exact B3.out | exact below_drew B3.out⟩ ?_
  rintro w4 ⟨r4, q4, z4, hb4⟩
  have R4 := Lib.hid r4
  have Q4 := Lib.hid q4
  have Z4 := Lib.hid z4
  have B4 := Lib.hid hb4
  clear r4 q4 z4 hb4 R3 Q3 Z3 B3
  go_wp2_with (first
    | (refine ldSk (B := #[.int .i64 5, .int .i64 f.S, .int .i64 0, .int .u64 0, .int .i64 0, .int .i64 0, .bool false, .int .i64 0, .int .i64 0, .int .u64 0, .slice a1 0 c1, .bool false, .int .i64 0, .int .u64 0, .slice a2 0 c2, .int .i64 0, .int .i64 0, .slice a3 0 c3, .bool false, .int .i64 f.S, .int .i64 f.T, .int .i64 f.K, .slice a4 f.L.length c4, .bool f.s, .int .i64 0, .int .i64 0, .int .i64 0, .slice a5 0 c5, .bool false]) rfl rfl rfl R4.out rfl (by kernel_rfl) ?_)
    | (refine ldQr (B := #[.int .i64 2, .string K, .int .i64 0, .int .i64 0, .int .i64 0]) rfl rfl rfl Q4.out rfl rfl ?_)
    | (go_at_call 35; (with_reducible refine (HA.out _ B4.out).mono ?_); rintro e w5 ⟨rfl, hb5⟩; have R5 := Lib.hid (R4.out.go hb5); have Z5 := Lib.hid (Z4.out.go hb5); have B5 := Lib.hid (bgo B4.out hb5); clear hb5 R4 Q4 Z4 B4)
    | (refine stAn rfl rfl rfl (RowAt.new w5 _ _) rfl rfl rfl rfl ?_; intro w6 r6 o6; have S6 := Lib.hid r6; have D6 := Lib.hid (Below.trans (b1 _) (o6.1 : Below w5.heap.size _ w6)); have R6 := Lib.hid (R5.out.go D6.out); have Z6 := Lib.hid (Z5.out.go D6.out); have B6 := Lib.hid (bgo B5.out D6.out); have L6 : Hid (w.heap.size + 1 + 1 < w5.heap.size) := Lib.hid Z5.out.lt; clear r6 o6 D6 R5 B5 Z5)
    | (refine ldSk (B := #[.int .i64 5, .int .i64 f.S, .int .i64 0, .int .u64 0, .int .i64 0, .int .i64 0, .bool false, .int .i64 0, .int .i64 0, .int .u64 0, .slice a1 0 c1, .bool false, .int .i64 0, .int .u64 0, .slice a2 0 c2, .int .i64 0, .int .i64 0, .slice a3 0 c3, .bool false, .int .i64 f.S, .int .i64 f.T, .int .i64 f.K, .slice a4 f.L.length c4, .bool f.s, .int .i64 0, .int .i64 0, .int .i64 0, .slice a5 0 c5, .bool false]) rfl rfl rfl R6.out rfl (by kernel_rfl) ?_)
    | (go_at_call 36; (with_reducible refine (HS.out _).mono ?_); rintro e w7 ⟨rfl, hb7⟩; have S7 := Lib.hid (S6.out.go hb7); have Z7 := Lib.hid (Z6.out.go hb7); have B7 := Lib.hid (bgo B6.out hb7); clear hb7 R6 S6 Z6 B6)
    | (refine stcb (A' := #[.int .i64 V, .int .i64 f.K, .string ByteArray.empty, .slice none 0 0, .slice none 0 0, .bool f.s]) rfl rfl rfl S7.out rfl (show 5 < 6 by decide) rfl ?_; intro w8 r8 o8; have S8 := Lib.hid r8; have Z8 := Lib.hid (Z7.out.oth o8 (by have := L6.out; omega)); have B8 := Lib.hid (B7.out.trans (o8.1.mono (by have := L6.out; omega))); clear r8 o8 S7 Z7 B7)
    | (refine ldAn (B := #[.int .i64 V, .int .i64 f.K, .string ByteArray.empty, .slice none 0 0, .slice none 0 0, .bool f.s]) rfl rfl rfl S8.out rfl rfl ?_)
    | (refine stAn rfl rfl rfl Z8.out rfl rfl rfl rfl ?_; intro w9 r9 o9; have Z9 := Lib.hid r9; have B9 := Lib.hid (B8.out.trans (o9.1.mono (by omega))); clear r9 o9))
  exact ret_row2 Tryz.results15 rfl rfl rfl Z9.out Tryz.underlying51 rfl infAn ⟨rfl, B9.out⟩
end Go.Proofs.YtjibbnknliamkaaGreatDoor
