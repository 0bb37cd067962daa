/- SkE: in one text. -/
import Derived.Test.YtjibbnknliamkaaGreatDoorPg16
import Derived.Test.YtjibbnknliamkaaGreatDoorPg17
import Derived.Test.YtjibbnknliamkaaGreatDoorPg12
namespace Go.Proofs.YtjibbnknliamkaaGreatDoor
open Go.RowKit
set_option linter.unusedVariables false
set_option linter.unusedSimpArgs false
/-- The rows of a sketch are the call's own (those of ranks stay as they are whatever turns below B). -/
def OwnRows (B : Nat) (s : SK) (v1 v2 v3 v4 v5 : Value) (w : World) : Prop := OwnI B s.c.L v1 w ∧ OwnI B s.l.L v2 w ∧ OwnE B s.t.L v3 w ∧ OwnE B s.f.L v4 w ∧ RdB B s.r.L v5 w
def OwnK (B : Nat) (s : SK) (v : Value) (w : World) : Prop :=
  ∃ a1 n1 c1 a2 n2 c2 a3 n3 c3 a4 n4 c4 a5 n5 c5, v = .agg (skA s (.slice a1 n1 c1) (.slice a2 n2 c2) (.slice a3 n3 c3) (.slice a4 n4 c4) (.slice a5 n5 c5)) ∧ OwnRows B s (.slice a1 n1 c1) (.slice a2 n2 c2) (.slice a3 n3 c3) (.slice a4 n4 c4) (.slice a5 n5 c5) w
theorem OwnK.rd {B : Nat} {s : SK} {v : Value} {w : World} (h : OwnK B s v w) : RdK s v w := by
  obtain ⟨a1, n1, c1, a2, n2, c2, a3, n3, c3, a4, n4, c4, a5, n5, c5, hv, h1, h2, h3, h4, h5⟩ := h
  exact ⟨a1, n1, c1, a2, n2, c2, a3, n3, c3, a4, n4, c4, a5, n5, c5, hv, h1.rd, h2.rd, h3.rd, h4.rd, h5.rd⟩
theorem RdB.oth {B g : Nat} {L : List (List ByteArray)} {v : Value} {w w' : World} (h : RdB B L v w) (ho : Oth g w w') (hg : g < B) : RdB B L v w' := by
  obtain ⟨us, h⟩ := h
  refine ⟨us, fun w'' hs hk => h w'' (Nat.le_trans ho.1.size hs) fun b hb hlt => (hk b hb (Nat.lt_of_lt_of_le hlt ho.1.size)).trans (ho.2 b (by omega))⟩
theorem OwnE.oth {B g : Nat} {L : List Ent} {v : Value} {w w' : World} (h : OwnE B L v w) (ho : Oth g w w') (hg : g < B) : OwnE B L v w' := by
  obtain ⟨hy, h1, h2⟩ := h
  refine ⟨hy, h1, ?_⟩
  rcases h2 with h2 | ⟨b, cap, cur, rfl, hb', hg', r⟩
  · exact .inl h2
  · exact .inr ⟨b, cap, cur, rfl, hb', (ho.2 b (by omega)).trans hg', r⟩
/-- The sketch of no insertions, whatever the parameters are that the kind does not use, and its error. -/
def emE (k S D x : Int) : Int := if k = 1 then 0 else if k = 2 then newE D S else if k = 3 then newLE S else if k = 4 then newTE S else if k = 5 then newQE S else if k = 6 then newRE S else 8
def emK (k S D x : Int) : SK :=
  ⟨k, S, D, x, 0, 0, false, if k = 2 then newC D S x else CM.none, if k = 3 then newL S x else LL.none, if k = 4 then newT S else TP.none, if k = 5 then newQ S else FQ.none, if k = 6 then newR S else RK.none⟩
set_option maxRecDepth 100000 in
set_option maxHeartbeats 2000000 in
theorem em_k1 (S D x : Int) (w : World) (hS : I64 S) (hD : I64 D) :
    Calls Tryz.prog 138 #[.agg #[.int .i64 1, .int .i64 S, .int .i64 D, .int .u64 x]] w fun e w' => ∃ v, e = .returned (.tuple #[v, .int .i64 (0)]) ∧ OwnK w.heap.size ⟨1, S, D, x, 0, 0, false, CM.none, LL.none, TP.none, FQ.none, RK.none⟩ v w' ∧ Below w.heap.size w w' := by
  have HN := Lib.hid (fun w => tnew_any w)
  clear hS hD
  go_enter Tryz.func138, Tryz.ntmps138
  go_upto_region 1 with (fail)
  refine wp_genW (fun w1 => RowAt w.heap.size #[.int .i64 1, .int .i64 S, .int .i64 D, .int .u64 x] w1 ∧ RowAt (w.heap.size + 1) zcSk w1 ∧ Below w.heap.size w w1 ∧ w.heap.size + 2 ≤ w1.heap.size) ⟨(RowAt.new _ _ _).al _, RowAt.new1 _ _ _ _, b2 _ _, by simp⟩ ?_
  rintro w1 ⟨r1, r2, hb, hl⟩
  have R1 := Lib.hid r1
  have Q1 := Lib.hid r2
  have B1 := Lib.hid hb
  have L1 := Lib.hid hl
  clear r1 r2 hb hl
  go_wp2_with (first
    | (refine ldPm (B := #[.int .i64 1, .int .i64 S, .int .i64 D, .int .u64 x]) rfl rfl rfl R1.out rfl (by kernel_rfl) ?_)
    | (refine stPm (A' := #[.int .i64 1, .int .i64 S, .int .i64 D, .int .u64 x, .int .i64 0, .int .i64 0, .bool false, .int .i64 0, .int .i64 0, .int .u64 0, .slice none 0 0, .bool false, .int .i64 0, .int .u64 0, .slice none 0 0, .int .i64 0, .int .i64 0, .slice none 0 0, .bool false, .int .i64 0, .int .i64 0, .int .i64 0, .slice none 0 0, .bool false, .int .i64 0, .int .i64 0, .int .i64 0, .slice none 0 0, .bool false]) rfl rfl rfl Q1.out rfl rfl (all_one rfl) (show 0 + 4 ≤ 29 by decide) (by kernel_rfl) ?_; intro w2 r2 o2; have R2 := Lib.hid (R1.out.oth o2 (by omega)); have Q2 := Lib.hid r2; have B2 := Lib.hid (B1.out.trans (o2.1.mono (Nat.le_succ _))); have L2 := Lib.hid (Nat.le_trans L1.out o2.1.size); clear r2 o2 R1 Q1 B1 L1)
    | (refine ldi (v := .int .i64 1) rfl rfl rfl R2.out rfl ?_)
    | (refine ldi (v := .int .i64 S) rfl rfl rfl R2.out rfl ?_)
    | (refine ldi (v := .int .i64 D) rfl rfl rfl R2.out rfl ?_)
    | (refine ldu (v := .int .u64 x) rfl rfl rfl R2.out rfl ?_)
    | (go_at_call 175; (with_reducible refine (HN.out _).mono ?_); rintro e w3 ⟨rfl, hb3⟩; have Q3 := Lib.hid (Q2.out.go hb3); have B3 := Lib.hid (bgo B2.out hb3); have L3 := Lib.hid (Nat.le_trans L2.out hb3.size); clear hb3 Q2 B2 L2)
    | (refine stTa (A' := #[.int .i64 1, .int .i64 S, .int .i64 D, .int .u64 x, .int .i64 0, .int .i64 0, .bool false, .int .i64 0, .int .i64 0, .int .u64 0, .slice none 0 0, .bool false, .int .i64 0, .int .u64 0, .slice none 0 0, .int .i64 0, .int .i64 0, .slice none 0 0, .bool false, .int .i64 0, .int .i64 0, .int .i64 0, .slice none 0 0, .bool false, .int .i64 0, .int .i64 0, .int .i64 0, .slice none 0 0, .bool false]) rfl rfl rfl Q3.out rfl rfl (all_one rfl) (show 4 + 3 ≤ 29 by decide) (by kernel_rfl) ?_; intro w4 r4 o4; have Q4 := Lib.hid r4; have B4 := Lib.hid (B3.out.trans (o4.1.mono (Nat.le_succ _))); have L4 := Lib.hid (Nat.le_trans L3.out o4.1.size); clear r4 o4 Q3 B3 L3)
    | (refine ldSk (B := #[.int .i64 1, .int .i64 S, .int .i64 D, .int .u64 x, .int .i64 0, .int .i64 0, .bool false, .int .i64 0, .int .i64 0, .int .u64 0, .slice none 0 0, .bool false, .int .i64 0, .int .u64 0, .slice none 0 0, .int .i64 0, .int .i64 0, .slice none 0 0, .bool false, .int .i64 0, .int .i64 0, .int .i64 0, .slice none 0 0, .bool false, .int .i64 0, .int .i64 0, .int .i64 0, .slice none 0 0, .bool false]) rfl rfl rfl Q4.out rfl (by kernel_rfl) ?_)
    | (refine stWh rfl rfl rfl Q4.out rfl rfl rfl rfl ?_; intro w5 r5 o5; have Q5 := Lib.hid r5; have B5 := Lib.hid (B4.out.trans (o5.1.mono (Nat.le_succ _))); clear r5 o5))
  exact ret_row2 Tryz.results138 rfl rfl rfl Q5.out Tryz.underlying48 rfl infSk ⟨_, rfl, ⟨_, _, _, _, _, _, _, _, _, _, _, _, _, _, _, rfl, OwnI.empty _ _, OwnI.empty _ _, OwnE.empty _ _, OwnE.empty _ _, RdB.none_ _ _⟩, B5.out⟩
set_option maxRecDepth 100000 in
set_option maxHeartbeats 2000000 in
theorem em_k2 (S D x : Int) (w : World) (hS : I64 S) (hD : I64 D) :
    Calls Tryz.prog 138 #[.agg #[.int .i64 2, .int .i64 S, .int .i64 D, .int .u64 x]] w fun e w' => ∃ v, e = .returned (.tuple #[v, .int .i64 (newE D S)]) ∧ OwnK w.heap.size ⟨2, S, D, x, 0, 0, false, newC D S x, LL.none, TP.none, FQ.none, RK.none⟩ v w' ∧ Below w.heap.size w w' := by
  have HN := Lib.hid (fun w => cnew_any D S x w hD.1 hD.2 hS.1 hS.2)
  generalize newC D S x = q at *
  generalize newE D S = E at *
  clear hS hD
  go_enter Tryz.func138, Tryz.ntmps138
  go_upto_region 1 with (fail)
  refine wp_genW (fun w1 => RowAt w.heap.size #[.int .i64 2, .int .i64 S, .int .i64 D, .int .u64 x] w1 ∧ RowAt (w.heap.size + 1) zcSk w1 ∧ Below w.heap.size w w1 ∧ w.heap.size + 2 ≤ w1.heap.size) ⟨(RowAt.new _ _ _).al _, RowAt.new1 _ _ _ _, b2 _ _, by simp⟩ ?_
  rintro w1 ⟨r1, r2, hb, hl⟩
  have R1 := Lib.hid r1
  have Q1 := Lib.hid r2
  have B1 := Lib.hid hb
  have L1 := Lib.hid hl
  clear r1 r2 hb hl
  go_wp2_with (first
    | (refine ldPm (B := #[.int .i64 2, .int .i64 S, .int .i64 D, .int .u64 x]) rfl rfl rfl R1.out rfl (by kernel_rfl) ?_)
    | (refine stPm (A' := #[.int .i64 2, .int .i64 S, .int .i64 D, .int .u64 x, .int .i64 0, .int .i64 0, .bool false, .int .i64 0, .int .i64 0, .int .u64 0, .slice none 0 0, .bool false, .int .i64 0, .int .u64 0, .slice none 0 0, .int .i64 0, .int .i64 0, .slice none 0 0, .bool false, .int .i64 0, .int .i64 0, .int .i64 0, .slice none 0 0, .bool false, .int .i64 0, .int .i64 0, .int .i64 0, .slice none 0 0, .bool false]) rfl rfl rfl Q1.out rfl rfl (all_one rfl) (show 0 + 4 ≤ 29 by decide) (by kernel_rfl) ?_; intro w2 r2 o2; have R2 := Lib.hid (R1.out.oth o2 (by omega)); have Q2 := Lib.hid r2; have B2 := Lib.hid (B1.out.trans (o2.1.mono (Nat.le_succ _))); have L2 := Lib.hid (Nat.le_trans L1.out o2.1.size); clear r2 o2 R1 Q1 B1 L1)
    | (refine ldi (v := .int .i64 2) rfl rfl rfl R2.out rfl ?_)
    | (refine ldi (v := .int .i64 S) rfl rfl rfl R2.out rfl ?_)
    | (refine ldi (v := .int .i64 D) rfl rfl rfl R2.out rfl ?_)
    | (refine ldu (v := .int .u64 x) rfl rfl rfl R2.out rfl ?_)
    | (go_at_call 176; (with_reducible refine (HN.out _).mono ?_); rintro e w3 ⟨v, rfl, ⟨a, n, cp, rfl, ho⟩, hb3⟩; have O3 := Lib.hid ho; have Q3 := Lib.hid (Q2.out.go hb3); have B3 := Lib.hid (bgo B2.out hb3); have L3 := Lib.hid (Nat.le_trans L2.out hb3.size); clear ho hb3 Q2 B2)
    | (refine stCm (A' := #[.int .i64 2, .int .i64 S, .int .i64 D, .int .u64 x, .int .i64 0, .int .i64 0, .bool false, .int .i64 q.D, .int .i64 q.S, .int .u64 q.x, .slice a n cp, .bool q.s, .int .i64 0, .int .u64 0, .slice none 0 0, .int .i64 0, .int .i64 0, .slice none 0 0, .bool false, .int .i64 0, .int .i64 0, .int .i64 0, .slice none 0 0, .bool false, .int .i64 0, .int .i64 0, .int .i64 0, .slice none 0 0, .bool false]) rfl rfl rfl Q3.out rfl rfl (all_one rfl) (show 7 + 5 ≤ 29 by decide) (by kernel_rfl) ?_; intro w4 r4 o4; have O4 := Lib.hid (O3.out.oth o4 (by have := L2.out; omega)); have Q4 := Lib.hid r4; have B4 := Lib.hid (B3.out.trans (o4.1.mono (Nat.le_succ _))); have L4 := Lib.hid (Nat.le_trans L3.out o4.1.size); clear r4 o4 Q3 B3 L3 O3)
    | (refine ldSk (B := #[.int .i64 2, .int .i64 S, .int .i64 D, .int .u64 x, .int .i64 0, .int .i64 0, .bool false, .int .i64 q.D, .int .i64 q.S, .int .u64 q.x, .slice a n cp, .bool q.s, .int .i64 0, .int .u64 0, .slice none 0 0, .int .i64 0, .int .i64 0, .slice none 0 0, .bool false, .int .i64 0, .int .i64 0, .int .i64 0, .slice none 0 0, .bool false, .int .i64 0, .int .i64 0, .int .i64 0, .slice none 0 0, .bool false]) rfl rfl rfl Q4.out rfl (by kernel_rfl) ?_)
    | (refine stWh rfl rfl rfl Q4.out rfl rfl rfl rfl ?_; intro w5 r5 o5; have Q5 := Lib.hid r5; have B5 := Lib.hid (B4.out.trans (o5.1.mono (Nat.le_succ _))); have O5 := Lib.hid (O4.out.oth o5 (by have := L2.out; omega)); clear r5 o5))
  exact ret_row2 Tryz.results138 rfl rfl rfl Q5.out Tryz.underlying48 rfl infSk ⟨_, rfl, ⟨_, _, _, _, _, _, _, _, _, _, _, _, _, _, _, rfl, O5.out.mono (by have := L2.out; omega), OwnI.empty _ _, OwnE.empty _ _, OwnE.empty _ _, RdB.none_ _ _⟩, B5.out⟩
set_option maxRecDepth 100000 in
set_option maxHeartbeats 2000000 in
theorem em_k3 (S D x : Int) (w : World) (hS : I64 S) (hD : I64 D) :
    Calls Tryz.prog 138 #[.agg #[.int .i64 3, .int .i64 S, .int .i64 D, .int .u64 x]] w fun e w' => ∃ v, e = .returned (.tuple #[v, .int .i64 (newLE S)]) ∧ OwnK w.heap.size ⟨3, S, D, x, 0, 0, false, CM.none, newL S x, TP.none, FQ.none, RK.none⟩ v w' ∧ Below w.heap.size w w' := by
  have HN := Lib.hid (fun w => lnew_any S x w)
  generalize newL S x = q at *
  generalize newLE S = E at *
  clear hS hD
  go_enter Tryz.func138, Tryz.ntmps138
  go_upto_region 1 with (fail)
  refine wp_genW (fun w1 => RowAt w.heap.size #[.int .i64 3, .int .i64 S, .int .i64 D, .int .u64 x] w1 ∧ RowAt (w.heap.size + 1) zcSk w1 ∧ Below w.heap.size w w1 ∧ w.heap.size + 2 ≤ w1.heap.size) ⟨(RowAt.new _ _ _).al _, RowAt.new1 _ _ _ _, b2 _ _, by simp⟩ ?_
  rintro w1 ⟨r1, r2, hb, hl⟩
  have R1 := Lib.hid r1
  have Q1 := Lib.hid r2
  have B1 := Lib.hid hb
  have L1 := Lib.hid hl
  clear r1 r2 hb hl
  go_wp2_with (first
    | (refine ldPm (B := #[.int .i64 3, .int .i64 S, .int .i64 D, .int .u64 x]) rfl rfl rfl R1.out rfl (by kernel_rfl) ?_)
    | (refine stPm (A' := #[.int .i64 3, .int .i64 S, .int .i64 D, .int .u64 x, .int .i64 0, .int .i64 0, .bool false, .int .i64 0, .int .i64 0, .int .u64 0, .slice none 0 0, .bool false, .int .i64 0, .int .u64 0, .slice none 0 0, .int .i64 0, .int .i64 0, .slice none 0 0, .bool false, .int .i64 0, .int .i64 0, .int .i64 0, .slice none 0 0, .bool false, .int .i64 0, .int .i64 0, .int .i64 0, .slice none 0 0, .bool false]) rfl rfl rfl Q1.out rfl rfl (all_one rfl) (show 0 + 4 ≤ 29 by decide) (by kernel_rfl) ?_; intro w2 r2 o2; have R2 := Lib.hid (R1.out.oth o2 (by omega)); have Q2 := Lib.hid r2; have B2 := Lib.hid (B1.out.trans (o2.1.mono (Nat.le_succ _))); have L2 := Lib.hid (Nat.le_trans L1.out o2.1.size); clear r2 o2 R1 Q1 B1 L1)
    | (refine ldi (v := .int .i64 3) rfl rfl rfl R2.out rfl ?_)
    | (refine ldi (v := .int .i64 S) rfl rfl rfl R2.out rfl ?_)
    | (refine ldi (v := .int .i64 D) rfl rfl rfl R2.out rfl ?_)
    | (refine ldu (v := .int .u64 x) rfl rfl rfl R2.out rfl ?_)
    | (go_at_call 177; (with_reducible refine (HN.out _).mono ?_); rintro e w3 ⟨v, rfl, ⟨a, n, cp, rfl, ho⟩, hb3⟩; have O3 := Lib.hid ho; have Q3 := Lib.hid (Q2.out.go hb3); have B3 := Lib.hid (bgo B2.out hb3); have L3 := Lib.hid (Nat.le_trans L2.out hb3.size); clear ho hb3 Q2 B2)
    | (refine stLl (A' := #[.int .i64 3, .int .i64 S, .int .i64 D, .int .u64 x, .int .i64 0, .int .i64 0, .bool false, .int .i64 0, .int .i64 0, .int .u64 0, .slice none 0 0, .bool false, .int .i64 q.P, .int .u64 q.x, .slice a n cp, .int .i64 0, .int .i64 0, .slice none 0 0, .bool false, .int .i64 0, .int .i64 0, .int .i64 0, .slice none 0 0, .bool false, .int .i64 0, .int .i64 0, .int .i64 0, .slice none 0 0, .bool false]) rfl rfl rfl Q3.out rfl rfl (all_one rfl) (show 12 + 3 ≤ 29 by decide) (by kernel_rfl) ?_; intro w4 r4 o4; have O4 := Lib.hid (O3.out.oth o4 (by have := L2.out; omega)); have Q4 := Lib.hid r4; have B4 := Lib.hid (B3.out.trans (o4.1.mono (Nat.le_succ _))); have L4 := Lib.hid (Nat.le_trans L3.out o4.1.size); clear r4 o4 Q3 B3 L3 O3)
    | (refine ldSk (B := #[.int .i64 3, .int .i64 S, .int .i64 D, .int .u64 x, .int .i64 0, .int .i64 0, .bool false, .int .i64 0, .int .i64 0, .int .u64 0, .slice none 0 0, .bool false, .int .i64 q.P, .int .u64 q.x, .slice a n cp, .int .i64 0, .int .i64 0, .slice none 0 0, .bool false, .int .i64 0, .int .i64 0, .int .i64 0, .slice none 0 0, .bool false, .int .i64 0, .int .i64 0, .int .i64 0, .slice none 0 0, .bool false]) rfl rfl rfl Q4.out rfl (by kernel_rfl) ?_)
    | (refine stWh rfl rfl rfl Q4.out rfl rfl rfl rfl ?_; intro w5 r5 o5; have Q5 := Lib.hid r5; have B5 := Lib.hid (B4.out.trans (o5.1.mono (Nat.le_succ _))); have O5 := Lib.hid (O4.out.oth o5 (by have := L2.out; omega)); clear r5 o5))
  exact ret_row2 Tryz.results138 rfl rfl rfl Q5.out Tryz.underlying48 rfl infSk ⟨_, rfl, ⟨_, _, _, _, _, _, _, _, _, _, _, _, _, _, _, rfl, OwnI.empty _ _, O5.out.mono (by have := L2.out; omega), OwnE.empty _ _, OwnE.empty _ _, RdB.none_ _ _⟩, B5.out⟩
set_option maxRecDepth 100000 in
set_option maxHeartbeats 2000000 in
theorem em_k4 (S D x : Int) (w : World) (hS : I64 S) (hD : I64 D) :
    Calls Tryz.prog 138 #[.agg #[.int .i64 4, .int .i64 S, .int .i64 D, .int .u64 x]] w fun e w' => ∃ v, e = .returned (.tuple #[v, .int .i64 (newTE S)]) ∧ OwnK w.heap.size ⟨4, S, D, x, 0, 0, false, CM.none, LL.none, newT S, FQ.none, RK.none⟩ v w' ∧ Below w.heap.size w w' := by
  have HN := Lib.hid (fun w => pnew_any S w hS.1 hS.2)
  generalize newT S = q at *
  generalize newTE S = E at *
  clear hS hD
  go_enter Tryz.func138, Tryz.ntmps138
  go_upto_region 1 with (fail)
  refine wp_genW (fun w1 => RowAt w.heap.size #[.int .i64 4, .int .i64 S, .int .i64 D, .int .u64 x] w1 ∧ RowAt (w.heap.size + 1) zcSk w1 ∧ Below w.heap.size w w1 ∧ w.heap.size + 2 ≤ w1.heap.size) ⟨(RowAt.new _ _ _).al _, RowAt.new1 _ _ _ _, b2 _ _, by simp⟩ ?_
  rintro w1 ⟨r1, r2, hb, hl⟩
  have R1 := Lib.hid r1
  have Q1 := Lib.hid r2
  have B1 := Lib.hid hb
  have L1 := Lib.hid hl
  clear r1 r2 hb hl
  go_wp2_with (first
    | (refine ldPm (B := #[.int .i64 4, .int .i64 S, .int .i64 D, .int .u64 x]) rfl rfl rfl R1.out rfl (by kernel_rfl) ?_)
    | (refine stPm (A' := #[.int .i64 4, .int .i64 S, .int .i64 D, .int .u64 x, .int .i64 0, .int .i64 0, .bool false, .int .i64 0, .int .i64 0, .int .u64 0, .slice none 0 0, .bool false, .int .i64 0, .int .u64 0, .slice none 0 0, .int .i64 0, .int .i64 0, .slice none 0 0, .bool false, .int .i64 0, .int .i64 0, .int .i64 0, .slice none 0 0, .bool false, .int .i64 0, .int .i64 0, .int .i64 0, .slice none 0 0, .bool false]) rfl rfl rfl Q1.out rfl rfl (all_one rfl) (show 0 + 4 ≤ 29 by decide) (by kernel_rfl) ?_; intro w2 r2 o2; have R2 := Lib.hid (R1.out.oth o2 (by omega)); have Q2 := Lib.hid r2; have B2 := Lib.hid (B1.out.trans (o2.1.mono (Nat.le_succ _))); have L2 := Lib.hid (Nat.le_trans L1.out o2.1.size); clear r2 o2 R1 Q1 B1 L1)
    | (refine ldi (v := .int .i64 4) rfl rfl rfl R2.out rfl ?_)
    | (refine ldi (v := .int .i64 S) rfl rfl rfl R2.out rfl ?_)
    | (refine ldi (v := .int .i64 D) rfl rfl rfl R2.out rfl ?_)
    | (refine ldu (v := .int .u64 x) rfl rfl rfl R2.out rfl ?_)
    | (go_at_call 178; (with_reducible refine (HN.out _).mono ?_); rintro e w3 ⟨v, rfl, ⟨a, n, cp, rfl, ho⟩, hb3⟩; have O3 := Lib.hid ho; have Q3 := Lib.hid (Q2.out.go hb3); have B3 := Lib.hid (bgo B2.out hb3); have L3 := Lib.hid (Nat.le_trans L2.out hb3.size); clear ho hb3 Q2 B2)
    | (refine stTo (A' := #[.int .i64 4, .int .i64 S, .int .i64 D, .int .u64 x, .int .i64 0, .int .i64 0, .bool false, .int .i64 0, .int .i64 0, .int .u64 0, .slice none 0 0, .bool false, .int .i64 0, .int .u64 0, .slice none 0 0, .int .i64 q.S, .int .i64 q.T, .slice a n cp, .bool q.s, .int .i64 0, .int .i64 0, .int .i64 0, .slice none 0 0, .bool false, .int .i64 0, .int .i64 0, .int .i64 0, .slice none 0 0, .bool false]) rfl rfl rfl Q3.out rfl rfl (all_one rfl) (show 15 + 4 ≤ 29 by decide) (by kernel_rfl) ?_; intro w4 r4 o4; have O4 := Lib.hid (O3.out.oth o4 (by have := L2.out; omega)); have Q4 := Lib.hid r4; have B4 := Lib.hid (B3.out.trans (o4.1.mono (Nat.le_succ _))); have L4 := Lib.hid (Nat.le_trans L3.out o4.1.size); clear r4 o4 Q3 B3 L3 O3)
    | (refine ldSk (B := #[.int .i64 4, .int .i64 S, .int .i64 D, .int .u64 x, .int .i64 0, .int .i64 0, .bool false, .int .i64 0, .int .i64 0, .int .u64 0, .slice none 0 0, .bool false, .int .i64 0, .int .u64 0, .slice none 0 0, .int .i64 q.S, .int .i64 q.T, .slice a n cp, .bool q.s, .int .i64 0, .int .i64 0, .int .i64 0, .slice none 0 0, .bool false, .int .i64 0, .int .i64 0, .int .i64 0, .slice none 0 0, .bool false]) rfl rfl rfl Q4.out rfl (by kernel_rfl) ?_)
    | (refine stWh rfl rfl rfl Q4.out rfl rfl rfl rfl ?_; intro w5 r5 o5; have Q5 := Lib.hid r5; have B5 := Lib.hid (B4.out.trans (o5.1.mono (Nat.le_succ _))); have O5 := Lib.hid (O4.out.oth o5 (by have := L2.out; omega)); clear r5 o5))
  exact ret_row2 Tryz.results138 rfl rfl rfl Q5.out Tryz.underlying48 rfl infSk ⟨_, rfl, ⟨_, _, _, _, _, _, _, _, _, _, _, _, _, _, _, rfl, OwnI.empty _ _, OwnI.empty _ _, O5.out.mono (by have := L2.out; omega), OwnE.empty _ _, RdB.none_ _ _⟩, B5.out⟩
set_option maxRecDepth 100000 in
set_option maxHeartbeats 2000000 in
theorem em_k5 (S D x : Int) (w : World) (hS : I64 S) (hD : I64 D) :
    Calls Tryz.prog 138 #[.agg #[.int .i64 5, .int .i64 S, .int .i64 D, .int .u64 x]] w fun e w' => ∃ v, e = .returned (.tuple #[v, .int .i64 (newQE S)]) ∧ OwnK w.heap.size ⟨5, S, D, x, 0, 0, false, CM.none, LL.none, TP.none, newQ S, RK.none⟩ v w' ∧ Below w.heap.size w w' := by
  have HN := Lib.hid (fun w => pnewQ_any S w)
  generalize newQ S = q at *
  generalize newQE S = E at *
  clear hS hD
  go_enter Tryz.func138, Tryz.ntmps138
  go_upto_region 1 with (fail)
  refine wp_genW (fun w1 => RowAt w.heap.size #[.int .i64 5, .int .i64 S, .int .i64 D, .int .u64 x] w1 ∧ RowAt (w.heap.size + 1) zcSk w1 ∧ Below w.heap.size w w1 ∧ w.heap.size + 2 ≤ w1.heap.size) ⟨(RowAt.new _ _ _).al _, RowAt.new1 _ _ _ _, b2 _ _, by simp⟩ ?_
  rintro w1 ⟨r1, r2, hb, hl⟩
  have R1 := Lib.hid r1
  have Q1 := Lib.hid r2
  have B1 := Lib.hid hb
  have L1 := Lib.hid hl
  clear r1 r2 hb hl
  go_wp2_with (first
    | (refine ldPm (B := #[.int .i64 5, .int .i64 S, .int .i64 D, .int .u64 x]) rfl rfl rfl R1.out rfl (by kernel_rfl) ?_)
    | (refine stPm (A' := #[.int .i64 5, .int .i64 S, .int .i64 D, .int .u64 x, .int .i64 0, .int .i64 0, .bool false, .int .i64 0, .int .i64 0, .int .u64 0, .slice none 0 0, .bool false, .int .i64 0, .int .u64 0, .slice none 0 0, .int .i64 0, .int .i64 0, .slice none 0 0, .bool false, .int .i64 0, .int .i64 0, .int .i64 0, .slice none 0 0, .bool false, .int .i64 0, .int .i64 0, .int .i64 0, .slice none 0 0, .bool false]) rfl rfl rfl Q1.out rfl rfl (all_one rfl) (show 0 + 4 ≤ 29 by decide) (by kernel_rfl) ?_; intro w2 r2 o2; have R2 := Lib.hid (R1.out.oth o2 (by omega)); have Q2 := Lib.hid r2; have B2 := Lib.hid (B1.out.trans (o2.1.mono (Nat.le_succ _))); have L2 := Lib.hid (Nat.le_trans L1.out o2.1.size); clear r2 o2 R1 Q1 B1 L1)
    | (refine ldi (v := .int .i64 5) rfl rfl rfl R2.out rfl ?_)
    | (refine ldi (v := .int .i64 S) rfl rfl rfl R2.out rfl ?_)
    | (refine ldi (v := .int .i64 D) rfl rfl rfl R2.out rfl ?_)
    | (refine ldu (v := .int .u64 x) rfl rfl rfl R2.out rfl ?_)
    | (go_at_call 179; (with_reducible refine (HN.out _).mono ?_); rintro e w3 ⟨v, rfl, ⟨a, n, cp, rfl, ho⟩, hb3⟩; have O3 := Lib.hid ho; have Q3 := Lib.hid (Q2.out.go hb3); have B3 := Lib.hid (bgo B2.out hb3); have L3 := Lib.hid (Nat.le_trans L2.out hb3.size); clear ho hb3 Q2 B2)
    | (refine stFq (A' := #[.int .i64 5, .int .i64 S, .int .i64 D, .int .u64 x, .int .i64 0, .int .i64 0, .bool false, .int .i64 0, .int .i64 0, .int .u64 0, .slice none 0 0, .bool false, .int .i64 0, .int .u64 0, .slice none 0 0, .int .i64 0, .int .i64 0, .slice none 0 0, .bool false, .int .i64 q.S, .int .i64 q.T, .int .i64 q.K, .slice a n cp, .bool q.s, .int .i64 0, .int .i64 0, .int .i64 0, .slice none 0 0, .bool false]) rfl rfl rfl Q3.out rfl rfl (all_one rfl) (show 19 + 5 ≤ 29 by decide) (by kernel_rfl) ?_; intro w4 r4 o4; have O4 := Lib.hid (O3.out.oth o4 (by have := L2.out; omega)); have Q4 := Lib.hid r4; have B4 := Lib.hid (B3.out.trans (o4.1.mono (Nat.le_succ _))); have L4 := Lib.hid (Nat.le_trans L3.out o4.1.size); clear r4 o4 Q3 B3 L3 O3)
    | (refine ldSk (B := #[.int .i64 5, .int .i64 S, .int .i64 D, .int .u64 x, .int .i64 0, .int .i64 0, .bool false, .int .i64 0, .int .i64 0, .int .u64 0, .slice none 0 0, .bool false, .int .i64 0, .int .u64 0, .slice none 0 0, .int .i64 0, .int .i64 0, .slice none 0 0, .bool false, .int .i64 q.S, .int .i64 q.T, .int .i64 q.K, .slice a n cp, .bool q.s, .int .i64 0, .int .i64 0, .int .i64 0, .slice none 0 0, .bool false]) rfl rfl rfl Q4.out rfl (by kernel_rfl) ?_)
    | (refine stWh rfl rfl rfl Q4.out rfl rfl rfl rfl ?_; intro w5 r5 o5; have Q5 := Lib.hid r5; have B5 := Lib.hid (B4.out.trans (o5.1.mono (Nat.le_succ _))); have O5 := Lib.hid (O4.out.oth o5 (by have := L2.out; omega)); clear r5 o5))
  exact ret_row2 Tryz.results138 rfl rfl rfl Q5.out Tryz.underlying48 rfl infSk ⟨_, rfl, ⟨_, _, _, _, _, _, _, _, _, _, _, _, _, _, _, rfl, OwnI.empty _ _, OwnI.empty _ _, OwnE.empty _ _, O5.out.mono (by have := L2.out; omega), RdB.none_ _ _⟩, B5.out⟩
set_option maxRecDepth 100000 in
set_option maxHeartbeats 2000000 in
theorem em_k6 (S D x : Int) (w : World) (hS : I64 S) (hD : I64 D) :
    Calls Tryz.prog 138 #[.agg #[.int .i64 6, .int .i64 S, .int .i64 D, .int .u64 x]] w fun e w' => ∃ v, e = .returned (.tuple #[v, .int .i64 (newRE S)]) ∧ OwnK w.heap.size ⟨6, S, D, x, 0, 0, false, CM.none, LL.none, TP.none, FQ.none, newR S⟩ v w' ∧ Below w.heap.size w w' := by
  have HN := Lib.hid (fun w => pnewR_any S w)
  generalize newR S = q at *
  generalize newRE S = E at *
  clear hS hD
  go_enter Tryz.func138, Tryz.ntmps138
  go_upto_region 1 with (fail)
  refine wp_genW (fun w1 => RowAt w.heap.size #[.int .i64 6, .int .i64 S, .int .i64 D, .int .u64 x] w1 ∧ RowAt (w.heap.size + 1) zcSk w1 ∧ Below w.heap.size w w1 ∧ w.heap.size + 2 ≤ w1.heap.size) ⟨(RowAt.new _ _ _).al _, RowAt.new1 _ _ _ _, b2 _ _, by simp⟩ ?_
  rintro w1 ⟨r1, r2, hb, hl⟩
  have R1 := Lib.hid r1
  have Q1 := Lib.hid r2
  have B1 := Lib.hid hb
  have L1 := Lib.hid hl
  clear r1 r2 hb hl
  go_wp2_with (first
    | (refine ldPm (B := #[.int .i64 6, .int .i64 S, .int .i64 D, .int .u64 x]) rfl rfl rfl R1.out rfl (by kernel_rfl) ?_)
    | (refine stPm (A' := #[.int .i64 6, .int .i64 S, .int .i64 D, .int .u64 x, .int .i64 0, .int .i64 0, .bool false, .int .i64 0, .int .i64 0, .int .u64 0, .slice none 0 0, .bool false, .int .i64 0, .int .u64 0, .slice none 0 0, .int .i64 0, .int .i64 0, .slice none 0 0, .bool false, .int .i64 0, .int .i64 0, .int .i64 0, .slice none 0 0, .bool false, .int .i64 0, .int .i64 0, .int .i64 0, .slice none 0 0, .bool false]) rfl rfl rfl Q1.out rfl rfl (all_one rfl) (show 0 + 4 ≤ 29 by decide) (by kernel_rfl) ?_; intro w2 r2 o2; have R2 := Lib.hid (R1.out.oth o2 (by omega)); have Q2 := Lib.hid r2; have B2 := Lib.hid (B1.out.trans (o2.1.mono (Nat.le_succ _))); have L2 := Lib.hid (Nat.le_trans L1.out o2.1.size); clear r2 o2 R1 Q1 B1 L1)
    | (refine ldi (v := .int .i64 6) rfl rfl rfl R2.out rfl ?_)
    | (refine ldi (v := .int .i64 S) rfl rfl rfl R2.out rfl ?_)
    | (refine ldi (v := .int .i64 D) rfl rfl rfl R2.out rfl ?_)
    | (refine ldu (v := .int .u64 x) rfl rfl rfl R2.out rfl ?_)
    | (go_at_call 180; (with_reducible refine (HN.out _).mono ?_); rintro e w3 ⟨v, rfl, ⟨a, n, cp, rfl, ho⟩, hb3⟩; have O3 := Lib.hid ho; have Q3 := Lib.hid (Q2.out.go hb3); have B3 := Lib.hid (bgo B2.out hb3); have L3 := Lib.hid (Nat.le_trans L2.out hb3.size); clear ho hb3 Q2 B2)
    | (refine stRk (A' := #[.int .i64 6, .int .i64 S, .int .i64 D, .int .u64 x, .int .i64 0, .int .i64 0, .bool false, .int .i64 0, .int .i64 0, .int .u64 0, .slice none 0 0, .bool false, .int .i64 0, .int .u64 0, .slice none 0 0, .int .i64 0, .int .i64 0, .slice none 0 0, .bool false, .int .i64 0, .int .i64 0, .int .i64 0, .slice none 0 0, .bool false, .int .i64 q.S, .int .i64 q.T, .int .i64 q.K, .slice a n cp, .bool q.s]) rfl rfl rfl Q3.out rfl rfl (all_one rfl) (show 24 + 5 ≤ 29 by decide) (by kernel_rfl) ?_; intro w4 r4 o4; have O4 := Lib.hid (O3.out.oth o4 (by have := L2.out; omega)); have Q4 := Lib.hid r4; have B4 := Lib.hid (B3.out.trans (o4.1.mono (Nat.le_succ _))); have L4 := Lib.hid (Nat.le_trans L3.out o4.1.size); clear r4 o4 Q3 B3 L3 O3)
    | (refine ldSk (B := #[.int .i64 6, .int .i64 S, .int .i64 D, .int .u64 x, .int .i64 0, .int .i64 0, .bool false, .int .i64 0, .int .i64 0, .int .u64 0, .slice none 0 0, .bool false, .int .i64 0, .int .u64 0, .slice none 0 0, .int .i64 0, .int .i64 0, .slice none 0 0, .bool false, .int .i64 0, .int .i64 0, .int .i64 0, .slice none 0 0, .bool false, .int .i64 q.S, .int .i64 q.T, .int .i64 q.K, .slice a n cp, .bool q.s]) rfl rfl rfl Q4.out rfl (by kernel_rfl) ?_)
    | (refine stWh rfl rfl rfl Q4.out rfl rfl rfl rfl ?_; intro w5 r5 o5; have Q5 := Lib.hid r5; have B5 := Lib.hid (B4.out.trans (o5.1.mono (Nat.le_succ _))); have O5 := Lib.hid (O4.out.oth o5 (by have := L2.out; omega)); clear r5 o5))
  exact ret_row2 Tryz.results138 rfl rfl rfl Q5.out Tryz.underlying48 rfl infSk ⟨_, rfl, ⟨_, _, _, _, _, _, _, _, _, _, _, _, _, _, _, rfl, OwnI.empty _ _, OwnI.empty _ _, OwnE.empty _ _, OwnE.empty _ _, O5.out.mono (by have := L2.out; omega)⟩, B5.out⟩
set_option maxRecDepth 100000 in
set_option maxHeartbeats 2000000 in
theorem em_k7 (k S D x : Int) (h1 : k ≠ 1) (h2 : k ≠ 2) (h3 : k ≠ 3) (h4 : k ≠ 4) (h5 : k ≠ 5) (h6 : k ≠ 6) (w : World) (hS : I64 S) (hD : I64 D) :
    Calls Tryz.prog 138 #[.agg #[.int .i64 k, .int .i64 S, .int .i64 D, .int .u64 x]] w fun e w' => ∃ v, e = .returned (.tuple #[v, .int .i64 (8)]) ∧ OwnK w.heap.size ⟨k, S, D, x, 0, 0, false, CM.none, LL.none, TP.none, FQ.none, RK.none⟩ v w' ∧ Below w.heap.size w w' := by
  clear hS hD
  go_enter Tryz.func138, Tryz.ntmps138
  go_upto_region 1 with (fail)
  refine wp_genW (fun w1 => RowAt w.heap.size #[.int .i64 k, .int .i64 S, .int .i64 D, .int .u64 x] w1 ∧ RowAt (w.heap.size + 1) zcSk w1 ∧ Below w.heap.size w w1 ∧ w.heap.size + 2 ≤ w1.heap.size) ⟨(RowAt.new _ _ _).al _, RowAt.new1 _ _ _ _, b2 _ _, by simp⟩ ?_
  rintro w1 ⟨r1, r2, hb, hl⟩
  have R1 := Lib.hid r1
  have Q1 := Lib.hid r2
  have B1 := Lib.hid hb
  have L1 := Lib.hid hl
  clear r1 r2 hb hl
  go_wp2_with (first
    | (refine ldPm (B := #[.int .i64 k, .int .i64 S, .int .i64 D, .int .u64 x]) rfl rfl rfl R1.out rfl (by kernel_rfl) ?_)
    | (refine stPm (A' := #[.int .i64 k, .int .i64 S, .int .i64 D, .int .u64 x, .int .i64 0, .int .i64 0, .bool false, .int .i64 0, .int .i64 0, .int .u64 0, .slice none 0 0, .bool false, .int .i64 0, .int .u64 0, .slice none 0 0, .int .i64 0, .int .i64 0, .slice none 0 0, .bool false, .int .i64 0, .int .i64 0, .int .i64 0, .slice none 0 0, .bool false, .int .i64 0, .int .i64 0, .int .i64 0, .slice none 0 0, .bool false]) rfl rfl rfl Q1.out rfl rfl (all_one rfl) (show 0 + 4 ≤ 29 by decide) (by kernel_rfl) ?_; intro w2 r2 o2; have R2 := Lib.hid (R1.out.oth o2 (by omega)); have Q2 := Lib.hid r2; have B2 := Lib.hid (B1.out.trans (o2.1.mono (Nat.le_succ _))); have L2 := Lib.hid (Nat.le_trans L1.out o2.1.size); clear r2 o2 R1 Q1 B1 L1)
    | (refine ldi (v := .int .i64 k) rfl rfl rfl R2.out rfl ?_)
    | (refine ldi (v := .int .i64 S) rfl rfl rfl R2.out rfl ?_)
    | (refine ldi (v := .int .i64 D) rfl rfl rfl R2.out rfl ?_)
    | (refine ldu (v := .int .u64 x) rfl rfl rfl R2.out rfl ?_)
    | (refine ldSk (B := #[.int .i64 k, .int .i64 S, .int .i64 D, .int .u64 x, .int .i64 0, .int .i64 0, .bool false, .int .i64 0, .int .i64 0, .int .u64 0, .slice none 0 0, .bool false, .int .i64 0, .int .u64 0, .slice none 0 0, .int .i64 0, .int .i64 0, .slice none 0 0, .bool false, .int .i64 0, .int .i64 0, .int .i64 0, .slice none 0 0, .bool false, .int .i64 0, .int .i64 0, .int .i64 0, .slice none 0 0, .bool false]) rfl rfl rfl Q2.out rfl (by kernel_rfl) ?_)
    | (refine stWh rfl rfl rfl Q2.out rfl rfl rfl rfl ?_; intro w5 r5 o5; have Q5 := Lib.hid r5; have B5 := Lib.hid (B2.out.trans (o5.1.mono (Nat.le_succ _))); clear r5 o5))
  exact ret_row2 Tryz.results138 rfl rfl rfl Q5.out Tryz.underlying48 rfl infSk ⟨_, rfl, ⟨_, _, _, _, _, _, _, _, _, _, _, _, _, _, _, rfl, OwnI.empty _ _, OwnI.empty _ _, OwnE.empty _ _, OwnE.empty _ _, RdB.none_ _ _⟩, B5.out⟩
theorem em_any (k S D x : Int) (w : World) (hS : I64 S) (hD : I64 D) :
    Calls Tryz.prog 138 #[.agg #[.int .i64 k, .int .i64 S, .int .i64 D, .int .u64 x]] w fun e w' => ∃ v, e = .returned (.tuple #[v, .int .i64 (emE k S D x)]) ∧ OwnK w.heap.size (emK k S D x) v w' ∧ Below w.heap.size w w' := by
  unfold emE emK
  rcases kind_cases k with rfl | rfl | rfl | rfl | rfl | rfl | ⟨h1, h2, h3, h4, h5, h6⟩
  · simp only [if_true, if_false, show ((1 : Int) = 2) = False from by simp, show ((1 : Int) = 3) = False from by simp, show ((1 : Int) = 4) = False from by simp, show ((1 : Int) = 5) = False from by simp, show ((1 : Int) = 6) = False from by simp]
    exact em_k1 S D x w hS hD
  · simp only [if_true, if_false, show ((2 : Int) = 1) = False from by simp, show ((2 : Int) = 3) = False from by simp, show ((2 : Int) = 4) = False from by simp, show ((2 : Int) = 5) = False from by simp, show ((2 : Int) = 6) = False from by simp]
    exact em_k2 S D x w hS hD
  · simp only [if_true, if_false, show ((3 : Int) = 1) = False from by simp, show ((3 : Int) = 2) = False from by simp, show ((3 : Int) = 4) = False from by simp, show ((3 : Int) = 5) = False from by simp, show ((3 : Int) = 6) = False from by simp]
    exact em_k3 S D x w hS hD
  · simp only [if_true, if_false, show ((4 : Int) = 1) = False from by simp, show ((4 : Int) = 2) = False from by simp, show ((4 : Int) = 3) = False from by simp, show ((4 : Int) = 5) = False from by simp, show ((4 : Int) = 6) = False from by simp]
    exact em_k4 S D x w hS hD
  · simp only [if_true, if_false, show ((5 : Int) = 1) = False from by simp, show ((5 : Int) = 2) = False from by simp, show ((5 : Int) = 3) = False from by simp, show ((5 : Int) = 4) = False from by simp, show ((5 : Int) = 6) = False from by simp]
    exact em_k5 S D x w hS hD
  · simp only [if_true, if_false, show ((6 : Int) = 1) = False from by simp, show ((6 : Int) = 2) = False from by simp, show ((6 : Int) = 3) = False from by simp, show ((6 : Int) = 4) = False from by simp, show ((6 : Int) = 5) = False from by simp]
    exact em_k6 S D x w hS hD
  · simp only [if_neg h1, if_neg h2, if_neg h3, if_neg h4, if_neg h5, if_neg h6]
    exact em_k7 k S D x h1 h2 h3 h4 h5 h6 w hS hD
end Go.Proofs.YtjibbnknliamkaaGreatDoor
