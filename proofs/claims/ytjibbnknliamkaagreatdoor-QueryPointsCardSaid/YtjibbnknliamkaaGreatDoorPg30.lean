/- KnA13, Its: in one text. -/
import Derived.Test.YtjibbnknliamkaaGreatDoorPg29
import Derived.Test.YtjibbnknliamkaaGreatDoorPg27
import Derived.Test.YtjibbnknliamkaaGreatDoorPg25
import Derived.Test.YtjibbnknliamkaaGreatDoorPg26
import Derived.Test.YtjibbnknliamkaaGreatDoorPg03
import Derived.Test.YtjibbnknliamkaaGreatDoorPg02
import Derived.Test.YtjibbnknliamkaaGreatDoorProg
import Derived.Test.YtjibbnknliamkaaGreatDoorPg00
import Derived.BigRegion
import Derived.Deep.RegionLaw
import Derived.Deep.QuietTactic
import Derived.Deep.RegionHeld3
import Derived.BigQuiet
import Derived.ProofKit
import Derived.Handy
import Derived.Lib.Hide
namespace Go.Proofs.YtjibbnknliamkaaGreatDoor
open Go.RowKit
set_option linter.unusedVariables false
set_option linter.unusedSimpArgs false
theorem i64_z : I64 0 := by unfold I64; decide
theorem rows_z (w : World) : RowsK ⟨1, 0, 0, 0, 0, 0, false, CM.none, LL.none, TP.none, FQ.none, RK.none⟩ (.slice none 0 0) (.slice none 0 0) (.slice none 0 0) (.slice none 0 0) (.slice none 0 0) w := ⟨(OwnI.empty w.heap.size w).rd, (OwnI.empty w.heap.size w).rd, (OwnE.empty w.heap.size w).rd, (OwnE.empty w.heap.size w).rd, (RdB.none_ w.heap.size w).rd⟩
set_option maxRecDepth 100000 in
set_option maxHeartbeats 2000000 in
theorem rv_t (a1 : Option Addr) (c1 : Nat) (a2 : Option Addr) (c2 : Nat) (a3 : Option Addr) (c3 : Nat) (a4 : Option Addr) (c4 : Nat) (a5 : Option Addr) (c5 : Nat) (w : World) (h : RowsK ⟨1, 0, 0, 0, 0, 0, false, CM.none, LL.none, TP.none, FQ.none, RK.none⟩ (.slice a1 0 c1) (.slice a2 0 c2) (.slice a3 0 c3) (.slice a4 0 c4) (.slice a5 0 c5) w) :
    Calls Tryz.prog 37 #[.agg #[.int .i64 1, .int .i64 0, .int .i64 0, .int .u64 0, .int .i64 0, .int .i64 0, .bool false, .int .i64 0, .int .i64 0, .int .u64 0, .slice a1 0 c1, .bool false, .int .i64 0, .int .u64 0, .slice a2 0 c2, .int .i64 0, .int .i64 0, .slice a3 0 c3, .bool false, .int .i64 0, .int .i64 0, .int .i64 0, .slice a4 0 c4, .bool false, .int .i64 0, .int .i64 0, .int .i64 0, .slice a5 0 c5, .bool false]] w fun e w' => e = .returned (.int .i64 0) ∧ Below w.heap.size w w' := by
  have hl : LOk [] := ⟨by decide, fun l hl => by cases hl⟩
  have hE : prmE 1 0 0 0 = 0 := by decide
  have hV : valT 0 0 = 0 := by decide
  refine (rvl_k1 ⟨1, 0, 0, 0, 0, 0, false, CM.none, LL.none, TP.none, FQ.none, RK.none⟩ a1 0 c1 a2 0 c2 a3 0 c3 a4 0 c4 a5 0 c5 w true true 0 hV.symm hE (fun w' => ?_) (fun w' hb => ?_) (fun w' => ?_) (fun w' hb => ?_)).mono (fun e w' he => he)
  · have := rvp_any 1 0 0 0 w' i64_z
    rw [hE] at this
    exact this
  · have := rtval_any 0 0 false w' (by decide) (by decide) (by decide) (by decide)
    rw [hV] at this
    exact this
  · exact (on_row ⟨1, 0, 0, 0, 0, 0, false, CM.none, LL.none, TP.none, FQ.none, RK.none⟩ a1 0 c1 a2 0 c2 a3 0 c3 a4 0 c4 a5 0 c5 w').mono (fun e w2 he => ⟨he.1.trans (by kernel_rfl), he.2⟩)
  · exact rsame_row ⟨1, 0, 0, 0, 0, 0, false, CM.none, LL.none, TP.none, FQ.none, RK.none⟩ a1 0 c1 a2 0 c2 a3 0 c3 a4 0 c4 a5 0 c5 none 0 0 none 0 0 none 0 0 none 0 0 none 0 0 w' (h.below hb) (rows_z w') (by decide) (by decide) hl
theorem rpos_ok (n : Int) (w : World) (h0 : 0 ≤ n) (h1 : n ≤ 1073741824) :
    Calls Tryz.prog 55 #[.int .i64 n] w fun e w' => e = .returned (.bool true) ∧ w = w' := by
  have h2 : decide (0 ≤ n) = true := by simp [h0]
  have h3 : decide (n ≤ 1073741824) = true := by simp [h1]
  go_enter Tryz.func55, Tryz.ntmps55
  go_wp2
  all_goals
    go_ret
    exact ⟨ret_bool (by simp [*]), rfl⟩
set_option maxRecDepth 100000 in
set_option maxHeartbeats 2000000 in
theorem rit_t (a1 : Option Addr) (c1 : Nat) (a2 : Option Addr) (c2 : Nat) (a3 : Option Addr) (c3 : Nat) (a4 : Option Addr) (c4 : Nat) (a5 : Option Addr) (c5 : Nat) (w : World) (h : RowsK ⟨1, 0, 0, 0, 0, 0, false, CM.none, LL.none, TP.none, FQ.none, RK.none⟩ (.slice a1 0 c1) (.slice a2 0 c2) (.slice a3 0 c3) (.slice a4 0 c4) (.slice a5 0 c5) w) :
    Calls Tryz.prog 25 #[.agg #[.int .i64 1, .int .i64 0, .int .i64 0, .int .u64 0, .int .i64 0, .int .i64 0, .bool false, .int .i64 0, .int .i64 0, .int .u64 0, .slice a1 0 c1, .bool false, .int .i64 0, .int .u64 0, .slice a2 0 c2, .int .i64 0, .int .i64 0, .slice a3 0 c3, .bool false, .int .i64 0, .int .i64 0, .int .i64 0, .slice a4 0 c4, .bool false, .int .i64 0, .int .i64 0, .int .i64 0, .slice a5 0 c5, .bool false], .agg #[.string ⟨#[97]⟩, .int .i64 7], .slice none 0 0, .int .i64 0] w fun e w' =>
      e = .returned (.tuple #[.agg #[.int .i64 1, .int .i64 0, .int .i64 0, .int .u64 0, .int .i64 7, .int .i64 1, .bool false, .int .i64 0, .int .i64 0, .int .u64 0, .slice a1 0 c1, .bool false, .int .i64 0, .int .u64 0, .slice a2 0 c2, .int .i64 0, .int .i64 0, .slice a3 0 c3, .bool false, .int .i64 0, .int .i64 0, .int .i64 0, .slice a4 0 c4, .bool false, .int .i64 0, .int .i64 0, .int .i64 0, .slice a5 0 c5, .bool false], .int .i64 0, .int .i64 0]) ∧ Below w.heap.size w w' := by
  have HV := Lib.hid (fun w' (hb : Below w.heap.size w w') => rv_t a1 c1 a2 c2 a3 c3 a4 c4 a5 c5 w' (h.below hb))
  have HI := Lib.hid (fun w => ritem_any ⟨#[97]⟩ 7 w (by decide) (by decide) (by decide))
  have hi : itemE (byt ⟨#[97]⟩) 7 = 0 := by decide +kernel
  have HT := Lib.hid (fun w => rtins_any 0 0 7 false ⟨#[97]⟩ w (by decide) (by decide) (by decide) (by decide) (by decide) (by decide) (by decide))
  rw [hi] at HI HT
  have hins : insT 0 0 false 0 7 = (7, 1, false, 0) := by decide
  rw [hins] at HT
  have HO := Lib.hid (fun w => rpos_ok 0 w (by decide) (by decide))
  clear h hi hins
  go_enter Tryz.func25, Tryz.ntmps25
  go_upto_region 1 with (fail)
  refine wp_genW (fun w1 => RowAt w.heap.size #[.int .i64 1, .int .i64 0, .int .i64 0, .int .u64 0, .int .i64 0, .int .i64 0, .bool false, .int .i64 0, .int .i64 0, .int .u64 0, .slice a1 0 c1, .bool false, .int .i64 0, .int .u64 0, .slice a2 0 c2, .int .i64 0, .int .i64 0, .slice a3 0 c3, .bool false, .int .i64 0, .int .i64 0, .int .i64 0, .slice a4 0 c4, .bool false, .int .i64 0, .int .i64 0, .int .i64 0, .slice a5 0 c5, .bool false] w1 ∧ RowAt (w.heap.size + 1) #[.string ⟨#[97]⟩, .int .i64 7] w1 ∧ RowAt (w.heap.size + 1 + 1) zcSk w1 ∧ Below w.heap.size w w1) ⟨((RowAt.new _ _ _).al _).al _, (RowAt.new1 _ _ _ _).al _, RowAt.new2 _ _ _ _ _, b3 _ _ _⟩ ?_
  rintro w1 ⟨r1, r2, r3, hb⟩
  have R1 := Lib.hid r1
  have Q1 := Lib.hid r2
  have Z1 := Lib.hid r3
  have B1 := Lib.hid hb
  clear r1 r2 r3 hb
  go_wp2_with (first
    | (refine ldSk (B := #[.int .i64 1, .int .i64 0, .int .i64 0, .int .u64 0, .int .i64 0, .int .i64 0, .bool false, .int .i64 0, .int .i64 0, .int .u64 0, .slice a1 0 c1, .bool false, .int .i64 0, .int .u64 0, .slice a2 0 c2, .int .i64 0, .int .i64 0, .slice a3 0 c3, .bool false, .int .i64 0, .int .i64 0, .int .i64 0, .slice a4 0 c4, .bool false, .int .i64 0, .int .i64 0, .int .i64 0, .slice a5 0 c5, .bool false]) rfl rfl rfl R1.out rfl (by kernel_rfl) ?_)
    | (go_at_call 37; (with_reducible refine (HV.out _ B1.out).mono ?_); rintro e w2 ⟨rfl, hb2⟩; have R2 := Lib.hid (R1.out.go hb2); have Q2 := Lib.hid (Q1.out.go hb2); have Z2 := Lib.hid (Z1.out.go hb2); have B2 := Lib.hid (bgo B1.out hb2); clear hb2 R1 Q1 Z1 B1)
    | (refine ldIt (B := #[.string ⟨#[97]⟩, .int .i64 7]) rfl rfl rfl Q2.out rfl (by kernel_rfl) ?_)
    | (go_at_call 54; (with_reducible refine (HI.out _).mono ?_); rintro e w3 ⟨rfl, hb2⟩; have R3 := Lib.hid (R2.out.go hb2); have Q3 := Lib.hid (Q2.out.go hb2); have Z3 := Lib.hid (Z2.out.go hb2); have B3 := Lib.hid (bgo B2.out hb2); clear hb2 R2 Q2 Z2 B2)
    | (go_at_call 55; (with_reducible refine (HO.out _).mono ?_); rintro e w' ⟨rfl, rfl⟩)
    | (refine ldi (v := .int .i64 1) rfl rfl rfl R3.out rfl ?_)
    | (refine ldTa (B := #[.int .i64 0, .int .i64 0, .bool false]) rfl rfl rfl R3.out rfl (by kernel_rfl) ?_)
    | (refine ldIt (B := #[.string ⟨#[97]⟩, .int .i64 7]) rfl rfl rfl Q3.out rfl (by kernel_rfl) ?_)
    | (go_at_call 56; (with_reducible refine (HT.out _).mono ?_); rintro e w5 ⟨rfl, hb2⟩; have R5 := Lib.hid (R3.out.go hb2); have Z5 := Lib.hid (Z3.out.go hb2); have B5 := Lib.hid (bgo B3.out hb2); clear hb2 R3 Q3 Z3 B3)
    | (refine stTa (A' := #[.int .i64 1, .int .i64 0, .int .i64 0, .int .u64 0, .int .i64 7, .int .i64 1, .bool false, .int .i64 0, .int .i64 0, .int .u64 0, .slice a1 0 c1, .bool false, .int .i64 0, .int .u64 0, .slice a2 0 c2, .int .i64 0, .int .i64 0, .slice a3 0 c3, .bool false, .int .i64 0, .int .i64 0, .int .i64 0, .slice a4 0 c4, .bool false, .int .i64 0, .int .i64 0, .int .i64 0, .slice a5 0 c5, .bool false]) rfl rfl rfl R5.out rfl rfl (all_one rfl) (show 4 + 3 ≤ 29 by decide) (by kernel_rfl) ?_; intro w6 r6 o6; have R6 := Lib.hid r6; have Z6 := Lib.hid (Z5.out.oth o6 (by omega)); have B6 := Lib.hid (B5.out.trans o6.1); clear r6 o6 Z5 B5 R5)
    | (refine ldSk (B := #[.int .i64 1, .int .i64 0, .int .i64 0, .int .u64 0, .int .i64 7, .int .i64 1, .bool false, .int .i64 0, .int .i64 0, .int .u64 0, .slice a1 0 c1, .bool false, .int .i64 0, .int .u64 0, .slice a2 0 c2, .int .i64 0, .int .i64 0, .slice a3 0 c3, .bool false, .int .i64 0, .int .i64 0, .int .i64 0, .slice a4 0 c4, .bool false, .int .i64 0, .int .i64 0, .int .i64 0, .slice a5 0 c5, .bool false]) rfl rfl rfl R6.out rfl (by kernel_rfl) ?_)
    | (refine stWh rfl rfl rfl Z6.out rfl rfl rfl rfl ?_; intro w7 r7 o7; have Z7 := Lib.hid r7; have B7 := Lib.hid (B6.out.trans (o7.1.mono (by omega))); clear r7 o7 Z6 B6))
  exact ret_row3 Tryz.results25 rfl rfl rfl rfl Z7.out Tryz.underlying48 rfl infSk ⟨rfl, B7.out⟩
end Go.Proofs.YtjibbnknliamkaaGreatDoor
namespace Go.Proofs.YtjibbnknliamkaaGreatDoor
open Go.RowKit
set_option linter.unusedVariables false
set_option linter.unusedSimpArgs false
theorem info_it2 : (Tryz.prog.info? 71).map (fun i => (i.zero, i.size, i.bytes)) = some (some (.agg #[.string ByteArray.empty, .int .i64 0]), 2, 24) := by kernel_rfl
/-- An item. -/
structure It2 where
  k : ByteArray
  c : Int
def It2.z : It2 := ⟨ByteArray.empty, 0⟩
def It2.ok (x : It2) : Prop := x.k.size ≤ maxLen ∧ (-9223372036854775808 ≤ x.c ∧ x.c ≤ 9223372036854775807)
theorem It2.z_ok : It2.z.ok := ⟨by decide, by decide⟩
def It2.cs (x : It2) : List Value := [.string x.k, .int .i64 x.c]
def cellsIt : List It2 → List Value
  | [] => []
  | x :: L => x.cs ++ cellsIt L
theorem cellsIt_len : ∀ L : List It2, (cellsIt L).length = L.length * 2
  | [] => rfl
  | x :: L => by simp only [cellsIt, List.length_append, cellsIt_len L, List.length_cons, It2.cs, List.length_nil]; omega
theorem cellsIt_app : ∀ L M : List It2, cellsIt (L ++ M) = cellsIt L ++ cellsIt M
  | [], M => rfl
  | x :: L, M => by simp only [cellsIt, List.cons_append, cellsIt_app L M, List.append_assoc]
theorem cellsIt_at : ∀ {L : List It2} {j : Nat}, j < L.length → (cellsIt L)[j * 2]? = some (.string (L.getD j It2.z).k) ∧ (cellsIt L)[j * 2 + 1]? = some (.int .i64 (L.getD j It2.z).c)
  | [], j, h => by simp at h
  | x :: L, 0, h => ⟨rfl, rfl⟩
  | x :: L, j + 1, h => by
    have := cellsIt_at (L := L) (j := j) (by simp at h; omega)
    rw [show (j + 1) * 2 = j * 2 + 1 + 1 by omega]
    simp only [cellsIt, It2.cs, List.cons_append, List.nil_append]
    simp only [List.getD_eq_getElem?_getD, List.getElem?_cons_succ] at this ⊢
    exact this
theorem oneCell_it2 : ∀ L : List It2, ∀ v ∈ cellsIt L, v.oneCell' = true
  | [], v, h => by simp [cellsIt] at h
  | x :: L, v, h => by
    simp only [cellsIt, List.mem_append] at h
    rcases h with h | h
    · simp only [It2.cs, List.mem_cons, List.mem_nil_iff, or_false] at h
      rcases h with rfl | rfl <;> rfl
    · exact oneCell_it2 L v h
def ItOk (L : List It2) : Prop := ∀ x ∈ L, x.ok
theorem ItOk.nil : ItOk [] := fun _ h => by cases h
theorem ItOk.app {L M : List It2} (h : ItOk L) (k : ItOk M) : ItOk (L ++ M) := fun n hn => by
  rcases List.mem_append.1 hn with h' | h'
  · exact h n h'
  · exact k n h'
theorem ItOk.one {x : It2} (h : x.ok) : ItOk [x] := fun n hn => by
  rw [List.mem_singleton] at hn
  subst hn
  exact h
theorem ItOk.at_ {L : List It2} (h : ItOk L) (j : Nat) : (L.getD j It2.z).ok := by
  by_cases hk : j < L.length
  · have := h L[j] (List.getElem_mem hk)
    simpa [List.getD, hk] using this
  · have e : L.getD j It2.z = It2.z := by simp [List.getD, List.getElem?_eq_none (Nat.le_of_not_lt hk)]
    rw [e]
    exact It2.z_ok
/-- A slice of items of the call's own. -/
def OwnIt (B : Nat) (L : List It2) (v : Value) (w : World) : Prop := ItOk L ∧ w.ownsRow B 71 2 v L.length (cellsIt L)
/-- Two cells that hold an item. -/
def At2 (x : It2) (b o : Nat) (w : World) : Prop := w.cell? ⟨b, o, none⟩ = some (.string x.k) ∧ w.cell? ⟨b, o + 1, none⟩ = some (.int .i64 x.c)
theorem At2.below {x : It2} {b o B : Nat} {w w' : World} (h : At2 x b o w) (hb : Below B w w') (hlt : b < B) : At2 x b o w' :=
  ⟨(hb.cell (p := ⟨b, o, none⟩) hlt).trans h.1, (hb.cell (p := ⟨b, o + 1, none⟩) hlt).trans h.2⟩
/-- A slice of items that can be read. -/
def RdIt (L : List It2) (v : Value) (w : World) : Prop :=
  ItOk L ∧ ∃ a cap, v = .slice a L.length cap ∧ L.length ≤ cap ∧ cap ≤ maxLen ∧ (0 < L.length → ∃ b off, a = some ⟨b, off, none⟩ ∧ b < w.heap.size ∧ ∀ j, j < L.length → At2 (L.getD j It2.z) b (off + j * 2) w)
theorem RdIt.below {L : List It2} {v : Value} {w w' : World} (h : RdIt L v w) (hb : Below w.heap.size w w') : RdIt L v w' := by
  obtain ⟨hy, a, cap, rfl, h1, h2, h3⟩ := h
  refine ⟨hy, a, cap, rfl, h1, h2, fun hp => ?_⟩
  obtain ⟨b, off, rfl, hlt, hc⟩ := h3 hp
  exact ⟨b, off, rfl, Nat.lt_of_lt_of_le hlt hb.size, fun j hj => (hc j hj).below hb hlt⟩
theorem RdIt.shape {L : List It2} {v : Value} {w : World} (h : RdIt L v w) : ∃ a cap, v = .slice a L.length cap := by
  obtain ⟨_, a, cap, rfl, _⟩ := h
  exact ⟨a, cap, rfl⟩
theorem OwnIt.cellsAt {B : Nat} {L : List It2} {g cap : Nat} {w : World} (h : OwnIt B L (.slice (some ⟨g, 0, none⟩) L.length cap) w) {j : Nat} (hj : j < L.length) : At2 (L.getD j It2.z) g (j * 2) w := by
  obtain ⟨hy, ho⟩ := h
  obtain ⟨c0, c1⟩ := cellsIt_at hj
  exact ⟨(World.ownsRow.cellAt ho _ (by omega)).trans c0, (World.ownsRow.cellAt ho _ (by omega)).trans c1⟩
theorem OwnIt.rd {B : Nat} {L : List It2} {v : Value} {w : World} (h : OwnIt B L v w) : RdIt L v w := by
  have h' := h
  obtain ⟨hy, ho⟩ := h
  have hl := World.ownsRow.lt ho
  refine ⟨hy, ?_⟩
  rcases ho.2 with ⟨rfl, hn⟩ | ⟨g, cap, cur, rfl, hb, _, h1, h2, _⟩
  · exact ⟨none, 0, by rw [hn], by omega, by simp [maxLen], fun hp => by omega⟩
  · exact ⟨some ⟨g, 0, none⟩, cap, rfl, h1, h2, fun hp => ⟨g, 0, rfl, (hl g rfl).2, fun j hj => by
      rw [Nat.zero_add]; exact h'.cellsAt hj⟩⟩
theorem OwnIt.mono {B B' : Nat} {L : List It2} {v : Value} {w : World} (h : OwnIt B L v w) (hB : B' ≤ B) : OwnIt B' L v w := by
  obtain ⟨hy, h1, h2⟩ := h
  refine ⟨hy, h1, ?_⟩
  rcases h2 with h2 | ⟨g, cap, cur, rfl, hb, r⟩
  · exact .inl h2
  · exact .inr ⟨g, cap, cur, rfl, Nat.le_trans hB hb, r⟩
theorem OwnIt.alloc {B : Nat} {L : List It2} {v : Value} {w : World} (h : OwnIt B L v w) (o : Obj) : OwnIt B L v (w.alloc o) := ⟨h.1, World.ownsRow.alloc h.2 o⟩
theorem OwnIt.below {B : Nat} {L : List It2} {v : Value} {w w' : World} (h : OwnIt B L v w) (hb : Below w.heap.size w w') : OwnIt B L v w' := by
  obtain ⟨hy, h1, h2⟩ := h
  refine ⟨hy, h1, ?_⟩
  rcases h2 with h2 | ⟨g, cap, cur, rfl, hb', hg, r⟩
  · exact .inl h2
  · exact .inr ⟨g, cap, cur, rfl, hb', (hb.block g (Array.getElem?_eq_some_iff.1 hg).1).trans hg, r⟩
theorem OwnIt.empty (B : Nat) (w : World) : OwnIt B [] (.slice none 0 0) w := ⟨ItOk.nil, World.ownsRow_nil _ _ _ _⟩
theorem OwnIt.one {x : It2} (hx : x.ok) (w : World) : OwnIt w.heap.size [x] (.slice (some ⟨w.heap.size, 0, none⟩) 1 1) (w.alloc (.cells #[.string x.k, .int .i64 x.c] 71)) :=
  ⟨ItOk.one hx, rfl, .inr ⟨w.heap.size, 1, #[.string x.k, .int .i64 x.c], rfl, Nat.le_refl _, Go.heap_alloc_new w _, Nat.le_refl _, by decide, rfl, rfl⟩⟩
/-- What may be appended: the items M. -/
def FromIt (M : List It2) (tx : TypeId) (u : Value) (w : World) : Prop := ItOk M ∧ Src Tryz.prog 2 tx u M.length (cellsIt M) w
theorem RdIt.src {L : List It2} {v : Value} {w : World} (h : RdIt L v w) : FromIt L 78 v w := by
  obtain ⟨hy, a, cap, rfl, h1, h2, h3⟩ := h
  refine ⟨hy, ?_⟩
  have hl : (cellsIt L).length = L.length * 2 := cellsIt_len L
  cases a with
  | none =>
    by_cases hp : 0 < L.length
    · obtain ⟨b, off, he, _⟩ := h3 hp
      cases he
    · have : L = [] := List.eq_nil_of_length_eq_zero (by omega)
      subst this
      exact Src.ofNil w Tryz.underlying78 cap
  | some ad =>
    refine Src.ofSlice w Tryz.underlying78 ad L.length cap (cellsIt L) hl (fun i u hu => ?_) (oneCell_it2 L)
    have hi : i < L.length * 2 := by
      have := (List.getElem?_eq_some_iff.1 hu).1
      omega
    obtain ⟨b, off, he, _, hc⟩ := h3 (by omega)
    cases he
    rw [Addr.add_lit]
    have hj : i / 2 < L.length := by omega
    obtain ⟨c0, c1⟩ := hc (i / 2) hj
    obtain ⟨d0, d1⟩ := cellsIt_at hj
    have h3' : i = i / 2 * 2 ∨ i = i / 2 * 2 + 1 := by omega
    generalize i / 2 = j at *
    rcases h3' with rfl | rfl
    · rw [c0]
      rw [d0] at hu
      exact hu
    · rw [← Nat.add_assoc, c1]
      rw [d1] at hu
      exact hu
section
variable {w : World}
/-- append, onto items of the call's own. -/
theorem wp_appIt {ops : Array Oper} {rest : List Oper} {o : Oper} {a : Act} {Q : Exit → Act → World → Prop} (hgd : o.guard = none) (s x : Operand) (tx : TypeId)
    (ho : o.op = .call { callee := .builtin .append, args := #[s, x], argTypes := #[78, tx] }) (B : Nat) (L M : List It2) (v u : Value) (hs : a.eval s = v) (hx : a.eval x = u)
    (hown : OwnIt B L v w) (hsrc : FromIt M tx u w) (hB : B ≤ w.heap.size) (hn : L.length + M.length ≤ 1099511627776)
    (h : ∀ v' w', OwnIt B (L ++ M) v' w' → Below B w w' → wpList Tryz.prog ops Q rest (a.put o.dst v') w') : wpList Tryz.prog ops Q (o :: rest) a w := by
  obtain ⟨i0, hi, hz0, hz1, hz2⟩ := info_parts info_it2
  refine wpList_own_src w hgd s x 78 tx ho B 71 i0 (.agg #[.string ByteArray.empty, .int .i64 0]) 2 24 Tryz.underlying78 hi hz0 hz1 hz2 rfl (by decide) v L.length (cellsIt L) hs hown.2 u M.length (cellsIt M) hx hsrc.2 (by unfold maxLen; omega) (by omega) hB ?_
  intro v' w' h1 h2
  refine h v' w' ⟨hown.1.app hsrc.1, ?_⟩ ((Below.refl _ _).grown h2 hB (fun k hk => (World.ownsRow.lt hown.2 k hk).1))
  rw [List.length_append, cellsIt_app]
  exact h1
end
end Go.Proofs.YtjibbnknliamkaaGreatDoor
