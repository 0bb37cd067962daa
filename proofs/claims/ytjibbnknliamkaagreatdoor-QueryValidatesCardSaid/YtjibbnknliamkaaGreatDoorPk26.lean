/- KnA13, RowQ, QrN: in one text. -/
import Derived.Test.YtjibbnknliamkaaGreatDoorPk25
import Derived.Test.YtjibbnknliamkaaGreatDoorPk24
import Derived.Test.YtjibbnknliamkaaGreatDoorPk22
import Derived.Test.YtjibbnknliamkaaGreatDoorPk23
import Derived.Test.YtjibbnknliamkaaGreatDoorPk01
import Derived.Test.YtjibbnknliamkaaGreatDoorPk00
import Derived.Test.YtjibbnknliamkaaGreatDoorPk13
import Derived.Test.YtjibbnknliamkaaGreatDoorPk12
import Derived.BigRegion
namespace Go.Proofs.YtjibbnknliamkaaGreatDoor
open Go.RowKit
set_option linter.unusedVariables false
set_option linter.unusedSimpArgs false
theorem i64_z : I64 0 := by unfold I64; decide
theorem rows_z (w : World) : RowsK ⟨1, 0, 0, 0, 0, 0, false, CM.none, LL.none, TP.none, FQ.none, RK.none⟩ (.slice none 0 0) (.slice none 0 0) (.slice none 0 0) (.slice none 0 0) (.slice none 0 0) w := ⟨(OwnI.empty w.heap.size w).rd, (OwnI.empty w.heap.size w).rd, (OwnE.empty w.heap.size w).rd, (OwnE.empty w.heap.size w).rd, (RdB.none_ w.heap.size w).rd⟩
set_option maxRecDepth 100000 in
set_option maxHeartbeats 2000000 in
theorem rv_t (a1 : Option Addr) (c1 : Nat) (a2 : Option Addr) (c2 : Nat) (a3 : Option Addr) (c3 : Nat) (a4 : Option Addr) (c4 : Nat) (a5 : Option Addr) (c5 : Nat) (w : World) (h : RowsK ⟨1, 0, 0, 0, 0, 0, false, CM.none, LL.none, TP.none, FQ.none, RK.none⟩ (.slice a1 0 c1) (.slice a2 0 c2) (.slice a3 0 c3) (.slice a4 0 c4) (.slice a5 0 c5) w) :
    Calls Tryz.prog 37 #[.agg #[.int .i64 1, .int .i64 0, .int .i64 0, .int .u64 0, .int .i64 0, .int .i64 0, .bool false, .int .i64 0, .int .i64 0, .int .u64 0, .slice a1 0 c1, .bool false, .int .i64 0, .int .u64 0, .slice a2 0 c2, .int .i64 0, .int .i64 0, .slice a3 0 c3, .bool false, .int .i64 0, .int .i64 0, .int .i64 0, .slice a4 0 c4, .bool false, .int .i64 0, .int .i64 0, .int .i64 0, .slice a5 0 c5, .bool false]] w fun e w' => e = .returned (.int .i64 0) ∧ Below w.heap.size w w' := by
  have hl : LOk [] := ⟨by decide, fun l hl => by cases hl⟩
  have hE : prmE 1 0 0 0 = 0 := by decide
  have hV : valT 0 0 = 0 := by decide
  refine (rvl_k1 ⟨1, 0, 0, 0, 0, 0, false, CM.none, LL.none, TP.none, FQ.none, RK.none⟩ a1 0 c1 a2 0 c2 a3 0 c3 a4 0 c4 a5 0 c5 w true true 0 hV.symm hE (fun w' => ?_) (fun w' hb => ?_) (fun w' => ?_) (fun w' hb => ?_)).mono (fun e w' he => he)
  · have := rvp_any 1 0 0 0 w' i64_z
    rw [hE] at this
    exact this
  · have := rtval_any 0 0 false w' (by decide) (by decide) (by decide) (by decide)
    rw [hV] at this
    exact this
  · exact (on_row ⟨1, 0, 0, 0, 0, 0, false, CM.none, LL.none, TP.none, FQ.none, RK.none⟩ a1 0 c1 a2 0 c2 a3 0 c3 a4 0 c4 a5 0 c5 w').mono (fun e w2 he => ⟨he.1.trans (by kernel_rfl), he.2⟩)
  · exact rsame_row ⟨1, 0, 0, 0, 0, 0, false, CM.none, LL.none, TP.none, FQ.none, RK.none⟩ a1 0 c1 a2 0 c2 a3 0 c3 a4 0 c4 a5 0 c5 none 0 0 none 0 0 none 0 0 none 0 0 none 0 0 w' (h.below hb) (rows_z w') (by decide) (by decide) hl
theorem rpos_ok (n : Int) (w : World) (h0 : 0 ≤ n) (h1 : n ≤ 1073741824) :
    Calls Tryz.prog 55 #[.int .i64 n] w fun e w' => e = .returned (.bool true) ∧ w = w' := by
  have h2 : decide (0 ≤ n) = true := by simp [h0]
  have h3 : decide (n ≤ 1073741824) = true := by simp [h1]
  go_enter Tryz.func55, Tryz.ntmps55
  go_wp2
  all_goals
    go_ret
    exact ⟨ret_bool (by simp [*]), rfl⟩
set_option maxRecDepth 100000 in
set_option maxHeartbeats 2000000 in
theorem rit_t (a1 : Option Addr) (c1 : Nat) (a2 : Option Addr) (c2 : Nat) (a3 : Option Addr) (c3 : Nat) (a4 : Option Addr) (c4 : Nat) (a5 : Option Addr) (c5 : Nat) (w : World) (h : RowsK ⟨1, 0, 0, 0, 0, 0, false, CM.none, LL.none, TP.none, FQ.none, RK.none⟩ (.slice a1 0 c1) (.slice a2 0 c2) (.slice a3 0 c3) (.slice a4 0 c4) (.slice a5 0 c5) w) :
    Calls Tryz.prog 25 #[.agg #[.int .i64 1, .int .i64 0, .int .i64 0, .int .u64 0, .int .i64 0, .int .i64 0, .bool false, .int .i64 0, .int .i64 0, .int .u64 0, .slice a1 0 c1, .bool false, .int .i64 0, .int .u64 0, .slice a2 0 c2, .int .i64 0, .int .i64 0, .slice a3 0 c3, .bool false, .int .i64 0, .int .i64 0, .int .i64 0, .slice a4 0 c4, .bool false, .int .i64 0, .int .i64 0, .int .i64 0, .slice a5 0 c5, .bool false], .agg #[.string ⟨#[97]⟩, .int .i64 7], .slice none 0 0, .int .i64 0] w fun e w' =>
      e = .returned (.tuple #[.agg #[.int .i64 1, .int .i64 0, .int .i64 0, .int .u64 0, .int .i64 7, .int .i64 1, .bool false, .int .i64 0, .int .i64 0, .int .u64 0, .slice a1 0 c1, .bool false, .int .i64 0, .int .u64 0, .slice a2 0 c2, .int .i64 0, .int .i64 0, .slice a3 0 c3, .bool false, .int .i64 0, .int .i64 0, .int .i64 0, .slice a4 0 c4, .bool false, .int .i64 0, .int .i64 0, .int .i64 0, .slice a5 0 c5, .bool false], .int .i64 0, .int .i64 0]) ∧ Below w.heap.size w w' := by
  have HV := Lib.hid (fun w' (hb : Below w.heap.size w w') => rv_t a1 c1 a2 c2 a3 c3 a4 c4 a5 c5 w' (h.below hb))
  have HI := Lib.hid (fun w => ritem_any ⟨#[97]⟩ 7 w (by decide) (by decide) (by decide))
  have hi : itemE (byt ⟨#[97]⟩) 7 = 0 := by decide +kernel
  have HT := Lib.hid (fun w => rtins_any 0 0 7 false ⟨#[97]⟩ w (by decide) (by decide) (by decide) (by decide) (by decide) (by decide) (by decide))
  rw [hi] at HI HT
  have hins : insT 0 0 false 0 7 = (7, 1, false, 0) := by decide
  rw [hins] at HT
  have HO := Lib.hid (fun w => rpos_ok 0 w (by decide) (by decide))
  clear h hi hins
  go_enter Tryz.func25, Tryz.ntmps25
  go_upto_region 1 with (fail)
  refine wp_genW (fun w1 => RowAt w.heap.size #[.int .i64 1, .int .i64 0, .int .i64 0, .int .u64 0, .int .i64 0, .int .i64 0, .bool false, .int .i64 0, .int .i64 0, .int .u64 0, .slice a1 0 c1, .bool false, .int .i64 0, .int .u64 0, .slice a2 0 c2, .int .i64 0, .int .i64 0, .slice a3 0 c3, .bool false, .int .i64 0, .int .i64 0, .int .i64 0, .slice a4 0 c4, .bool false, .int .i64 0, .int .i64 0, .int .i64 0, .slice a5 0 c5, .bool false] w1 ∧ RowAt (w.heap.size + 1) #[.string ⟨#[97]⟩, .int .i64 7] w1 ∧ RowAt (w.heap.size + 1 + 1) zcSk w1 ∧ Below w.heap.size w w1) ⟨((RowAt.new _ _ _).al _).al _, (RowAt.new1 _ _ _ _).al _, RowAt.new2 _ _ _ _ _, b3 _ _ _⟩ ?_
  rintro w1 ⟨r1, r2, r3, hb⟩
  have R1 := Lib.hid r1
  have Q1 := Lib.hid r2
  have Z1 := Lib.hid r3
  have B1 := Lib.hid hb
  clear r1 r2 r3 hb
  go_wp2_with (first
    | (refine ldSk (B := #[.int .i64 1, .int .i64 0, .int .i64 0, .int .u64 0, .int .i64 0, .int .i64 0, .bool false, .int .i64 0, .int .i64 0, .int .u64 0, .slice a1 0 c1, .bool false, .int .i64 0, .int .u64 0, .slice a2 0 c2, .int .i64 0, .int .i64 0, .slice a3 0 c3, .bool false, .int .i64 0, .int .i64 0, .int .i64 0, .slice a4 0 c4, .bool false, .int .i64 0, .int .i64 0, .int .i64 0, .slice a5 0 c5, .bool false]) rfl rfl rfl R1.out rfl (by kernel_rfl) ?_)
    | (go_at_call 37; (with_reducible refine (HV.out _ B1.out).mono ?_); rintro e w2 ⟨rfl, hb2⟩; have R2 := Lib.hid (R1.out.go hb2); have Q2 := Lib.hid (Q1.out.go hb2); have Z2 := Lib.hid (Z1.out.go hb2); have B2 := Lib.hid (bgo B1.out hb2); clear hb2 R1 Q1 Z1 B1)
    | (refine ldIt (B := #[.string ⟨#[97]⟩, .int .i64 7]) rfl rfl rfl Q2.out rfl (by kernel_rfl) ?_)
    | (go_at_call 54; (with_reducible refine (HI.out _).mono ?_); rintro e w3 ⟨rfl, hb2⟩; have R3 := Lib.hid (R2.out.go hb2); have Q3 := Lib.hid (Q2.out.go hb2); have Z3 := Lib.hid (Z2.out.go hb2); have B3 := Lib.hid (bgo B2.out hb2); clear hb2 R2 Q2 Z2 B2)
    | (go_at_call 55; (with_reducible refine (HO.out _).mono ?_); rintro e w' ⟨rfl, rfl⟩)
    | (refine ldi (v := .int .i64 1) rfl rfl rfl R3.out rfl ?_)
    | (refine ldTa (B := #[.int .i64 0, .int .i64 0, .bool false]) rfl rfl rfl R3.out rfl (by kernel_rfl) ?_)
    | (refine ldIt (B := #[.string ⟨#[97]⟩, .int .i64 7]) rfl rfl rfl Q3.out rfl (by kernel_rfl) ?_)
    | (go_at_call 56; (with_reducible refine (HT.out _).mono ?_); rintro e w5 ⟨rfl, hb2⟩; have R5 := Lib.hid (R3.out.go hb2); have Z5 := Lib.hid (Z3.out.go hb2); have B5 := Lib.hid (bgo B3.out hb2); clear hb2 R3 Q3 Z3 B3)
    | (refine stTa (A' := #[.int .i64 1, .int .i64 0, .int .i64 0, .int .u64 0, .int .i64 7, .int .i64 1, .bool false, .int .i64 0, .int .i64 0, .int .u64 0, .slice a1 0 c1, .bool false, .int .i64 0, .int .u64 0, .slice a2 0 c2, .int .i64 0, .int .i64 0, .slice a3 0 c3, .bool false, .int .i64 0, .int .i64 0, .int .i64 0, .slice a4 0 c4, .bool false, .int .i64 0, .int .i64 0, .int .i64 0, .slice a5 0 c5, .bool false]) rfl rfl rfl R5.out rfl rfl (all_one rfl) (show 4 + 3 ≤ 29 by decide) (by kernel_rfl) ?_; intro w6 r6 o6; have R6 := Lib.hid r6; have Z6 := Lib.hid (Z5.out.oth o6 (by omega)); have B6 := Lib.hid (B5.out.trans o6.1); clear r6 o6 Z5 B5 R5)
    | (refine ldSk (B := #[.int .i64 1, .int .i64 0, .int .i64 0, .int .u64 0, .int .i64 7, .int .i64 1, .bool false, .int .i64 0, .int .i64 0, .int .u64 0, .slice a1 0 c1, .bool false, .int .i64 0, .int .u64 0, .slice a2 0 c2, .int .i64 0, .int .i64 0, .slice a3 0 c3, .bool false, .int .i64 0, .int .i64 0, .int .i64 0, .slice a4 0 c4, .bool false, .int .i64 0, .int .i64 0, .int .i64 0, .slice a5 0 c5, .bool false]) rfl rfl rfl R6.out rfl (by kernel_rfl) ?_)
    | (refine stWh rfl rfl rfl Z6.out rfl rfl rfl rfl ?_; intro w7 r7 o7; have Z7 := Lib.hid r7; have B7 := Lib.hid (B6.out.trans (o7.1.mono (by omega))); clear r7 o7 Z6 B6))
  exact ret_row3 Tryz.results25 rfl rfl rfl rfl Z7.out Tryz.underlying48 rfl infSk ⟨rfl, B7.out⟩
end Go.Proofs.YtjibbnknliamkaaGreatDoor
namespace Go.Proofs.YtjibbnknliamkaaGreatDoor
open Go Go.RowKit
set_option linter.unusedVariables false
set_option linter.unusedSimpArgs false
section
variable {ops : Array Oper} {rest : List Oper} {o : Oper} {a : Act} {w : World} {Q : Exit → Act → World → Prop}
theorem infQr : (Tryz.prog.info? 23).map (·.size) = some 5 := by kernel_rfl
def zcQr : Array Value := #[.int .i64 0, .string ByteArray.empty, .int .i64 0, .int .i64 0, .int .i64 0]
theorem ldQr {p : Operand} (hgd : o.guard = none) (ho : o.op = .load 23 p) {g off : Nat} (hp : a.eval p = .pointer (some ⟨g, off, none⟩)) {A B : Array Value} (h : RowAt g A w) (hs : B.size = 5) (hB : A.extract off (off + B.size) = B)
    (hK : wpList Tryz.prog ops Q rest (a.put o.dst (.agg B)) w) : wpList Tryz.prog ops Q (o :: rest) a w := wp_part hgd ho hp h Tryz.underlying23 rfl (infQr.trans (by rw [hs])) hB hK
theorem stQr {p y : Operand} (hgd : o.guard = none) (ho : o.op = .store 23 p y) {g : Nat} (hp : a.eval p = .pointer (some ⟨g, 0, none⟩)) {A B : Array Value} (h : RowAt g A w) (hy : a.eval y = .agg B) (hs : B.size = 5) (hn : A.size = 5) (h1 : B.toList.all (·.oneCell') = true)
    (hK : ∀ w', RowAt g B w' → Oth g w w' → wpList Tryz.prog ops Q rest (a.put o.dst undef) w') : wpList Tryz.prog ops Q (o :: rest) a w := wp_whole hgd ho hp h hy (infQr.trans (by rw [hs])) (all_one h1) (hs.trans hn.symm) hK
theorem infAn : (Tryz.prog.info? 51).map (·.size) = some 6 := by kernel_rfl
def zcAn : Array Value := #[.int .i64 0, .int .i64 0, .string ByteArray.empty, .slice none 0 0, .slice none 0 0, .bool false]
theorem ldAn {p : Operand} (hgd : o.guard = none) (ho : o.op = .load 51 p) {g off : Nat} (hp : a.eval p = .pointer (some ⟨g, off, none⟩)) {A B : Array Value} (h : RowAt g A w) (hs : B.size = 6) (hB : A.extract off (off + B.size) = B)
    (hK : wpList Tryz.prog ops Q rest (a.put o.dst (.agg B)) w) : wpList Tryz.prog ops Q (o :: rest) a w := wp_part hgd ho hp h Tryz.underlying51 rfl (infAn.trans (by rw [hs])) hB hK
theorem stAn {p y : Operand} (hgd : o.guard = none) (ho : o.op = .store 51 p y) {g : Nat} (hp : a.eval p = .pointer (some ⟨g, 0, none⟩)) {A B : Array Value} (h : RowAt g A w) (hy : a.eval y = .agg B) (hs : B.size = 6) (hn : A.size = 6) (h1 : B.toList.all (·.oneCell') = true)
    (hK : ∀ w', RowAt g B w' → Oth g w w' → wpList Tryz.prog ops Q rest (a.put o.dst undef) w') : wpList Tryz.prog ops Q (o :: rest) a w := wp_whole hgd ho hp h hy (infAn.trans (by rw [hs])) (all_one h1) (hs.trans hn.symm) hK
theorem stci {p y : Operand} (hgd : o.guard = none) (ho : o.op = .store 3 p y) {g off : Nat} (hp : a.eval p = .pointer (some ⟨g, off, none⟩)) {A : Array Value} (h : RowAt g A w) {n : Int} (hy : a.eval y = .int .i64 n) (hn : off < A.size) {A' : Array Value} (hA : A.setIfInBounds off (.int .i64 n) = A')
    (hK : ∀ w', RowAt g A' w' → Oth g w w' → wpList Tryz.prog ops Q rest (a.put o.dst undef) w') : wpList Tryz.prog ops Q (o :: rest) a w := wp_put1 hgd ho hp h hy (by kernel_rfl) rfl rfl hn hA hK
theorem stcs {p y : Operand} (hgd : o.guard = none) (ho : o.op = .store 9 p y) {g off : Nat} (hp : a.eval p = .pointer (some ⟨g, off, none⟩)) {A : Array Value} (h : RowAt g A w) {n : ByteArray} (hy : a.eval y = .string n) (hn : off < A.size) {A' : Array Value} (hA : A.setIfInBounds off (.string n) = A')
    (hK : ∀ w', RowAt g A' w' → Oth g w w' → wpList Tryz.prog ops Q rest (a.put o.dst undef) w') : wpList Tryz.prog ops Q (o :: rest) a w := wp_put1 hgd ho hp h hy (by kernel_rfl) rfl rfl hn hA hK
theorem stcb {p y : Operand} (hgd : o.guard = none) (ho : o.op = .store 4 p y) {g off : Nat} (hp : a.eval p = .pointer (some ⟨g, off, none⟩)) {A : Array Value} (h : RowAt g A w) {n : Bool} (hy : a.eval y = .bool n) (hn : off < A.size) {A' : Array Value} (hA : A.setIfInBounds off (.bool n) = A')
    (hK : ∀ w', RowAt g A' w' → Oth g w w' → wpList Tryz.prog ops Q rest (a.put o.dst undef) w') : wpList Tryz.prog ops Q (o :: rest) a w := wp_put1 hgd ho hp h hy (by kernel_rfl) rfl rfl hn hA hK
end
end Go.Proofs.YtjibbnknliamkaaGreatDoor
namespace Go.Proofs.YtjibbnknliamkaaGreatDoor
open Go.RowKit
set_option linter.unusedVariables false
set_option linter.unusedSimpArgs false
/-- What the fields that a kind uses must satisfy: the first error. -/
def qrU (k : Int) (K : ByteArray) (n u d : Int) : Int :=
  if k = 2 ∨ k = 6 then (if keyB (byt K) = false then 7 else 0)
  else if k = 5 then (if n < 0 ∨ 32 < n then 5 else 0)
  else if k = 7 then (if d < 1 ∨ 1000000 < d ∨ u < 0 ∨ d < u then 5 else 0)
  else 0
/-- Is a field set that the kind does not use? -/
def qrS (k : Int) (K : ByteArray) (n u d : Int) : Prop := ((¬ (k = 2 ∨ k = 6)) ∧ K.toList ≠ []) ∨ (k ≠ 5 ∧ n ≠ 0) ∨ (k ≠ 7 ∧ (u ≠ 0 ∨ d ≠ 0))
instance (k : Int) (K : ByteArray) (n u d : Int) : Decidable (qrS k K n u d) := by unfold qrS; infer_instance
/-- The error of a query. -/
def qrE (k : Int) (K : ByteArray) (n u d : Int) : Int :=
  if k < 1 ∨ 7 < k then 8 else if qrU k K n u d ≠ 0 then qrU k K n u d else if qrS k K n u d then 18 else 0
theorem qr_cases (k : Int) : k = 1 ∨ k = 2 ∨ k = 3 ∨ k = 4 ∨ k = 5 ∨ k = 6 ∨ k = 7 ∨ (k < 1 ∨ 7 < k) := by omega
end Go.Proofs.YtjibbnknliamkaaGreatDoor
