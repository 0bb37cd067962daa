/- IntRow, Cm, RefSat, RTally, CmCol: in one text. -/
import Derived.Test.YtjibbnknliamkaaGreatDoorPk00
import Derived.Test.YtjibbnknliamkaaGreatDoorProg
import Derived.Deep.RegionLaw
import Derived.Deep.QuietTactic
import Derived.BigQuiet
import Derived.ProofKit
import Derived.Handy
import Derived.Lib.Hide
import Derived.WalkKit
import Derived.Shelf.Small.Bits
import Derived.Shelf.Strconv.Itoa0
import Derived.Shelf.Bits.Mul64
import Derived.Shelf.Spec.TrailingZeros
namespace Go.Proofs.YtjibbnknliamkaaGreatDoor
open Go.RowKit
set_option linter.unusedVariables false
set_option linter.unusedSimpArgs false
theorem info_int : (Tryz.prog.info? 3).map (fun i => (i.zero, i.size, i.bytes)) = some (some (.int .i64 0), 1, 8) := by kernel_rfl
/-- Ints of 64 bits. -/
def Rng (L : List Int) : Prop := ∀ n ∈ L, -9223372036854775808 ≤ n ∧ n ≤ 9223372036854775807
theorem Rng.nil : Rng [] := fun _ h => by cases h
theorem Rng.at_ {L : List Int} (h : Rng L) (k : Nat) : -9223372036854775808 ≤ L.getD k 0 ∧ L.getD k 0 ≤ 9223372036854775807 := by
  by_cases hk : k < L.length
  · have := h L[k] (List.getElem_mem hk)
    simpa [List.getD, hk] using this
  · simp [List.getD, List.getElem?_eq_none (Nat.le_of_not_lt hk)]
theorem Rng.set {L : List Int} (h : Rng L) (j : Nat) {c : Int} (hc : -9223372036854775808 ≤ c ∧ c ≤ 9223372036854775807) : Rng (L.set j c) := fun x hx => by
  rcases List.mem_or_eq_of_mem_set hx with h' | rfl
  · exact h x h'
  · exact hc
theorem Rng.rep {c : Int} (n : Nat) (h : -9223372036854775808 ≤ c ∧ c ≤ 9223372036854775807) : Rng (List.replicate n c) := fun x hx => by
  rw [List.eq_of_mem_replicate hx]
  exact h
def cellsI (L : List Int) : List Value := L.map (Value.int .i64)
theorem cellsI_at {L : List Int} {j : Nat} (h : j < L.length) : (cellsI L)[j]? = some (.int .i64 (L.getD j 0)) := by simp [cellsI, List.getD, h]
theorem cellsI_set (L : List Int) (j : Nat) (c : Int) : (cellsI L).set j (.int .i64 c) = cellsI (L.set j c) := by simp [cellsI, List.map_set]
/-- A slice of ints of the call's own. -/
def OwnI (B : Nat) (L : List Int) (v : Value) (w : World) : Prop := Rng L ∧ w.ownsRow B 3 1 v L.length (cellsI L)
theorem RdI.drewN {L : List Int} {v : Value} {w : World} (h : RdI L v w) (n : Nat) : RdI L v (w.drewN n) := h
theorem OwnI.rd {B : Nat} {L : List Int} {v : Value} {w : World} (h : OwnI B L v w) : RdI L v w := by
  obtain ⟨hy, ho⟩ := h
  have hl := World.ownsRow.lt ho
  refine ⟨hy, ?_⟩
  rcases ho.2 with ⟨rfl, hn⟩ | ⟨g, cap, cur, rfl, hb, _, h1, h2, _⟩
  · exact ⟨none, 0, by rw [hn], by omega, by simp [maxLen], fun hp => by omega⟩
  · exact ⟨some ⟨g, 0, none⟩, cap, rfl, h1, h2, fun hp => ⟨g, 0, rfl, (hl g rfl).2, fun j hj => by
      rw [Nat.zero_add]; exact (World.ownsRow.cellAt ho j (by omega)).trans (cellsI_at hj)⟩⟩
theorem RdI.shape {L : List Int} {v : Value} {w : World} (h : RdI L v w) : ∃ a cap, v = .slice a L.length cap := by
  obtain ⟨_, a, cap, rfl, _⟩ := h
  exact ⟨a, cap, rfl⟩
theorem OwnI.mono {B B' : Nat} {L : List Int} {v : Value} {w : World} (h : OwnI B L v w) (hB : B' ≤ B) : OwnI B' L v w := by
  obtain ⟨hy, h1, h2⟩ := h
  refine ⟨hy, h1, ?_⟩
  rcases h2 with h2 | ⟨g, cap, cur, rfl, hb, r⟩
  · exact .inl h2
  · exact .inr ⟨g, cap, cur, rfl, Nat.le_trans hB hb, r⟩
theorem OwnI.alloc {B : Nat} {L : List Int} {v : Value} {w : World} (h : OwnI B L v w) (o : Obj) : OwnI B L v (w.alloc o) := ⟨h.1, World.ownsRow.alloc h.2 o⟩
theorem OwnI.below {B : Nat} {L : List Int} {v : Value} {w w' : World} (h : OwnI B L v w) (hb : Below w.heap.size w w') : OwnI B L v w' := by
  obtain ⟨hy, h1, h2⟩ := h
  refine ⟨hy, h1, ?_⟩
  rcases h2 with h2 | ⟨g, cap, cur, rfl, hb', hg, r⟩
  · exact .inl h2
  · exact .inr ⟨g, cap, cur, rfl, hb', (hb.block g (Array.getElem?_eq_some_iff.1 hg).1).trans hg, r⟩
theorem OwnI.empty (B : Nat) (w : World) : OwnI B [] (.slice none 0 0) w := ⟨Rng.nil, World.ownsRow_nil _ _ _ _⟩
theorem OwnI.drewN {B : Nat} {L : List Int} {v : Value} {w : World} (h : OwnI B L v w) (n : Nat) : OwnI B L v (w.drewN n) := h
/-- It stays where a block below it is written. -/
theorem OwnI.keep {B b : Nat} {L : List Int} {v : Value} {w : World} (h : OwnI B L v w) (hb : b < B) (o : Nat) (u : Value) : OwnI B L v (w.setCell ⟨b, o, none⟩ u) := ⟨h.1, ownsRow_setCell_below h.2 hb u⟩
section
variable {w : World}
/-- 'make([]int, n)': zeros of the call's own. -/
theorem wp_makeI {ops : Array Oper} {rest : List Oper} {o : Oper} {a : Act} {Q : Exit → Act → World → Prop} (hgd : o.guard = none) (l c : Operand)
    (ho : o.op = Op.makeSlice 29 l c) (N : Nat) (hl : a.eval l = .int .i64 (N : Int)) (hc : a.eval c = .int .i64 (N : Int)) (hN : N ≤ 35184372088832)
    (h : ∀ w' : World, OwnI w.heap.size (List.replicate N 0) (.slice (some ⟨w.heap.size, 0, none⟩) N N) w' → Below w.heap.size w w' → w.heap.size < w'.heap.size → wpList Tryz.prog ops Q rest (a.put o.dst (.slice (some ⟨w.heap.size, 0, none⟩) N N)) w') : wpList Tryz.prog ops Q (o :: rest) a w := by
  obtain ⟨i0, hi, hz0, hz1, hz2⟩ := info_parts info_int
  refine wpList_make_full w hgd l c 29 ho w.heap.size 3 i0 (.int .i64 0) 1 Tryz.underlying29 hi hz0 hz1 .i64 .i64 N N N hl hc rfl rfl (by rw [hz2]; omega) (by unfold maxLen; omega) (Nat.le_refl _) ?_
  intro w1 hown hgrow
  have ho : w1.ownsRow w.heap.size 3 1 (.slice (some ⟨w.heap.size, 0, none⟩) N N) (List.replicate N (0 : Int)).length (cellsI (List.replicate N 0)) := by
    rw [show (Value.int .i64 0).cells = #[Value.int .i64 0] from rfl, toList_madeCells_one, Nat.mul_one] at hown
    have e : cellsI (List.replicate N 0) = List.replicate N (Value.int .i64 0) := by simp [cellsI]
    rw [e, List.length_replicate]
    exact hown
  exact h w1 ⟨Rng.rep N (by omega), ho⟩ ((Below.refl _ _).grown hgrow (Nat.le_refl _) (fun _ h => by cases h)) (World.ownsRow.lt ho _ rfl).2
end
/-- An own slice with an element: its cells, and what a store leaves. -/
theorem OwnI.cells {B : Nat} {L : List Int} {a : Option Addr} {n cap : Nat} {w : World} (h : OwnI B L (.slice a n cap) w) (hp : 0 < L.length) :
    ∃ g, a = some ⟨g, 0, none⟩ ∧ B ≤ g ∧ g < w.heap.size ∧ (∀ j, j < L.length → w.cell? ⟨g, j, none⟩ = some (.int .i64 (L.getD j 0)) ∧ w.frozen? ⟨g, j, none⟩ = false) ∧
      ∀ j c, -9223372036854775808 ≤ c ∧ c ≤ 9223372036854775807 → OwnI B (L.set j c) (.slice (some ⟨g, 0, none⟩) n cap) (w.setCell ⟨g, j, none⟩ (.int .i64 c)) := by
  obtain ⟨hy, ho⟩ := h
  have h2 := ho.2
  rcases h2 with ⟨he, hn⟩ | ⟨g, cap', cur, he, hb, _⟩
  · omega
  · simp only [Value.slice.injEq] at he
    obtain ⟨rfl, hnl, rfl⟩ := he
    subst hnl
    refine ⟨g, rfl, hb, (World.ownsRow.lt ho g rfl).2, fun j hj => ⟨(World.ownsRow.cellAt ho j (by omega)).trans (cellsI_at hj), World.ownsRow.frozenAt ho j⟩, fun j c hc => ⟨Rng.set hy j hc, ?_⟩⟩
    have := (World.ownsRow.stored ho j (.int .i64 c)).1
    rw [List.length_set]
    rw [cellsI_set] at this
    exact this
end Go.Proofs.YtjibbnknliamkaaGreatDoor
namespace Go.Proofs.YtjibbnknliamkaaGreatDoor
open Go.RowKit
set_option linter.unusedVariables false
set_option linter.unusedSimpArgs false
/-- A sketch: depth, size, seed, cells, flag. -/
structure CM where
  D : Int
  S : Int
  x : Int
  L : List Int
  s : Bool
def CM.none : CM := ⟨0, 0, 0, [], false⟩
/-- Depth and size are within their limits. -/
def shpB (D S : Int) : Bool := decide (1 ≤ D) && decide (D ≤ 8) && (decide (1 ≤ S) && decide (S ≤ 64))
theorem shpB_iff (D S : Int) : shpB D S = true ↔ 1 ≤ D ∧ D ≤ 8 ∧ 1 ≤ S ∧ S ≤ 64 := by
  unfold shpB
  simp [and_assoc]
/-- A cell is within its limits. -/
def celB (n : Int) : Bool := decide (0 ≤ n) && decide (n ≤ 4294967295)
theorem celB_iff (n : Int) : celB n = true ↔ 0 ≤ n ∧ n ≤ 4294967295 := by
  unfold celB
  simp
/-- The error of a sketch. -/
def cmE (D S : Int) (L : List Int) : Int := if shpB D S = false then 5 else if (L.length : Int) ≠ D * S then 18 else if L.all celB = true then 0 else 5
end Go.Proofs.YtjibbnknliamkaaGreatDoor
namespace Go.Proofs.YtjibbnknliamkaaGreatDoor
open Go.RowKit
set_option linter.unusedVariables false
set_option linter.unusedSimpArgs false
theorem natural_any (n : Int) (w : World) (h0 : -9223372036854775808 ≤ n) (h1 : n ≤ 9223372036854775807) :
    Calls Tryz.prog 133 #[.int .i64 n] w fun e w' => e = .returned (.int .i64 (nat0 n)) ∧ w = w' := by
  go_enter Tryz.func133, Tryz.ntmps133
  go_wp2
  go_ret
  exact ⟨ret_int (by unfold nat0; rfl), rfl⟩
theorem ref_add_any (a b most : Int) (w : World) (a0 : -9223372036854775808 ≤ a) (a1 : a ≤ 9223372036854775807) (b0 : -9223372036854775808 ≤ b) (b1 : b ≤ 9223372036854775807) (h0 : -9223372036854775808 ≤ most) (h1 : most ≤ 9223372036854775807) :
    Calls Tryz.prog 96 #[.int .i64 a, .int .i64 b, .int .i64 most] w fun e w' => e = .returned (.tuple #[.int .i64 (satN (nat0 a + nat0 b) (nat0 most)), .bool (satF (nat0 a + nat0 b) (nat0 most))]) ∧ w = w' := by
  have ha := nat0_bd a a1
  have hb := nat0_bd b b1
  have hm := nat0_bd most h1
  by_cases h : nat0 most < nat0 a + nat0 b
  · have e1 : satN (nat0 a + nat0 b) (nat0 most) = nat0 most := by unfold satN; rw [if_pos h]
    have e2 : satF (nat0 a + nat0 b) (nat0 most) = true := by unfold satF; simpa using h
    rw [e1, e2]
    clear e1 e2
    by_cases h2 : nat0 most < nat0 a
    all_goals
      go_enter Tryz.func96, Tryz.ntmps96
      go_wp2_with (go_at_call 133; refine (natural_any _ _ (by omega) (by omega)).mono ?_; rintro e w' ⟨rfl, rfl⟩)
      go_ret2
      exact ⟨rfl, rfl⟩
  · have e1 : satN (nat0 a + nat0 b) (nat0 most) = nat0 a + nat0 b := by unfold satN; rw [if_neg h]
    have e2 : satF (nat0 a + nat0 b) (nat0 most) = false := by unfold satF; simpa using h
    rw [e1, e2]
    clear e1 e2
    have h2 : ¬ nat0 most < nat0 a := by omega
    have h3 : ¬ nat0 most - nat0 a < nat0 b := by omega
    go_enter Tryz.func96, Tryz.ntmps96
    go_wp2_with (go_at_call 133; refine (natural_any _ _ (by omega) (by omega)).mono ?_; rintro e w' ⟨rfl, rfl⟩)
    go_ret2
    exact ⟨rfl, rfl⟩
end Go.Proofs.YtjibbnknliamkaaGreatDoor
namespace Go.Proofs.YtjibbnknliamkaaGreatDoor
open Go.RowKit
set_option linter.unusedVariables false
set_option linter.unusedSimpArgs false
theorem radd_count (a b : Int) (w : World) (a0 : -9223372036854775808 ≤ a) (a1 : a ≤ 9223372036854775807) (b0 : -9223372036854775808 ≤ b) (b1 : b ≤ 9223372036854775807) :
    Calls Tryz.prog 96 #[.int .i64 a, .int .i64 b, .int .i64 4294967295] w fun e w' => e = .returned (.tuple #[.int .i64 (sumT a b), .bool (sumF a b)]) ∧ w = w' :=
  ref_add_any a b 4294967295 w a0 a1 b0 b1 (by decide) (by decide)
/-- A number from l to h. -/
def inW (n l h : Int) : Bool := decide (l ≤ n) && decide (n ≤ h)
theorem rwithin_any (n l h : Int) (w : World) :
    Calls Tryz.prog 87 #[.int .i64 n, .int .i64 l, .int .i64 h] w fun e w' => e = .returned (.bool (inW n l h)) ∧ w = w' := by
  unfold inW
  go_enter Tryz.func87, Tryz.ntmps87
  go_wp2
  all_goals
    go_ret
    exact ⟨ret_bool (by simp [*] <;> omega), rfl⟩
theorem valT_in (T I : Int) : valT T I = if inW T 0 4294967295 = true ∧ inW I 0 4294967295 = true ∧ I ≤ T then 0 else 5 := by
  unfold valT inW
  by_cases h : 4294967295 < T ∨ I < 0 ∨ T < I
  · rw [if_pos h, if_neg (by simp; omega)]
  · rw [if_neg h, if_pos (by simp; omega)]
set_option maxHeartbeats 1000000 in
theorem rtval_any (T I : Int) (s : Bool) (w : World) (T0 : -9223372036854775808 ≤ T) (T1 : T ≤ 9223372036854775807) (I0 : -9223372036854775808 ≤ I) (I1 : I ≤ 9223372036854775807) :
    Calls Tryz.prog 74 #[.agg #[.int .i64 T, .int .i64 I, .bool s]] w fun e w' => e = .returned (.int .i64 (valT T I)) ∧ Below w.heap.size w w' := by
  rw [valT_in]
  have h1 := fun w => rwithin_any T 0 4294967295 w
  have h2 := fun w => rwithin_any I 0 4294967295 w
  generalize inW T 0 4294967295 = A at *
  generalize inW I 0 4294967295 = B at *
  cases A
  all_goals cases B
  all_goals
    go_enter Tryz.func74, Tryz.ntmps74
    go_wp2_with (first
      | (go_at_call 87; ((with_reducible refine (h1 _).mono ?_); rintro e w' ⟨rfl, rfl⟩))
      | (go_at_call 87; ((with_reducible refine (h2 _).mono ?_); rintro e w' ⟨rfl, rfl⟩)))
    all_goals
      go_ret
      exact ⟨ret_int (by first | rfl | (rename_i h; simp at h; done) | (simp [*] <;> omega)), b1 _⟩
set_option maxHeartbeats 1000000 in
theorem rtsum_any (T I U J : Int) (s r : Bool) (w : World) (T0 : -9223372036854775808 ≤ T) (T1 : T ≤ 9223372036854775807) (I0 : -9223372036854775808 ≤ I) (I1 : I ≤ 9223372036854775807)
    (U0 : -9223372036854775808 ≤ U) (U1 : U ≤ 9223372036854775807) (J0 : -9223372036854775808 ≤ J) (J1 : J ≤ 9223372036854775807) :
    Calls Tryz.prog 95 #[.agg #[.int .i64 T, .int .i64 I, .bool s], .agg #[.int .i64 U, .int .i64 J, .bool r]] w fun e w' => e = .returned (.agg #[.int .i64 (sumT T U), .int .i64 (sumT I J), .bool (s || r || sumF T U || sumF I J)]) ∧ Below w.heap.size w w' := by
  have h1 := fun w => radd_count T U w T0 T1 U0 U1
  have h2 := fun w => radd_count I J w I0 I1 J0 J1
  generalize sumT T U = A at *
  generalize sumT I J = B at *
  generalize sumF T U = F at *
  generalize sumF I J = G at *
  go_enter Tryz.func95, Tryz.ntmps95
  go_wp2_with (first
    | (go_at_call 96; ((with_reducible refine (h1 _).mono ?_); rintro e w' ⟨rfl, rfl⟩))
    | (go_at_call 96; ((with_reducible refine (h2 _).mono ?_); rintro e w' ⟨rfl, rfl⟩)))
  all_goals
    refine bodyPost_ret (v := .agg #[.int .i64 A, .int .i64 B, .bool (s || r || F || G)]) (by simp [results, Tryz.results95, go_sem, *]) rfl ⟨rfl, b3 _ _ _⟩
set_option maxRecDepth 100000 in
set_option maxHeartbeats 1000000 in
theorem rtins_any (T I x : Int) (s : Bool) (k : ByteArray) (w : World) (T0 : -9223372036854775808 ≤ T) (T1 : T ≤ 9223372036854775807) (I0 : -9223372036854775808 ≤ I) (I1 : I ≤ 9223372036854775807)
    (x0 : -9223372036854775808 ≤ x) (x1 : x ≤ 9223372036854775807) (hk : k.size ≤ maxLen) :
    Calls Tryz.prog 56 #[.agg #[.int .i64 T, .int .i64 I, .bool s], .agg #[.string k, .int .i64 x]] w fun e w' =>
      e = .returned (.tuple #[.agg #[.int .i64 (insT T I s (itemE (byt k) x) x).1, .int .i64 (insT T I s (itemE (byt k) x) x).2.1, .bool (insT T I s (itemE (byt k) x) x).2.2.1], .int .i64 (insT T I s (itemE (byt k) x) x).2.2.2]) ∧ Below w.heap.size w w' := by
  have h1 := fun w => rtval_any T I s w T0 T1 I0 I1
  have h2 := fun w => ritem_any k x w hk x0 x1
  have h3 := fun w => rtsum_any T I x 1 s false w T0 T1 I0 I1 x0 x1 (by decide) (by decide)
  unfold insT
  generalize valT T I = E at *
  generalize itemE (byt k) x = F at *
  generalize sumT T x = A at *
  generalize sumT I 1 = B at *
  generalize (s || false || sumF T x || sumF I 1) = G at *
  by_cases hE : E = 0
  · subst hE
    rw [if_neg (by decide)]
    by_cases hF : F = 0
    · subst hF
      rw [if_neg (by decide)]
      go_enter Tryz.func56, Tryz.ntmps56
      go_wp2_with (first
          | (go_at_call 74; ((with_reducible refine (h1 _).mono ?_); rintro e w2 ⟨rfl, hb2⟩; have B2 := bgo (b3 _ _ _) hb2; obtain ⟨hc2, hf2⟩ := bcell hb2; obtain ⟨hx2, hy2, hv2⟩ := room (n := w.heap.size) (m := w2.heap.size) (by have := hb2.size; simp at this; omega); clear hb2))
          | (go_at_call 54; ((with_reducible refine (h2 _).mono ?_); rintro e w3 ⟨rfl, hb3⟩; have B3 := bgo B2 hb3; obtain ⟨hc3, hf3⟩ := bcell hb3; obtain ⟨hx3, hy3, hv3⟩ := room (n := w.heap.size) (m := w3.heap.size) (by have := hb3.size; omega); clear hb3))
          | (go_at_call 95; ((with_reducible refine (h3 _).mono ?_); rintro e w4 ⟨rfl, hb4⟩; have B4 := bgo B3 hb4; obtain ⟨hc4, hf4⟩ := bcell hb4; obtain ⟨hx4, hy4, hv4⟩ := room (n := w.heap.size) (m := w4.heap.size) (by have := hb4.size; omega); clear hb4)))
      refine bodyPost_ret (v := .tuple #[.agg #[.int .i64 A, .int .i64 B, .bool G], .int .i64 0]) (by simp [results, Tryz.results56, go_sem, *]) rfl ⟨rfl, ?_⟩
      exact bset (bset (bset B4 _ _ _ (by omega)) _ _ _ (by omega)) _ _ _ (by omega)
    · have hF2 : (F != 0) = true := by simp [hF]
      rw [if_pos hF]
      clear hF
      go_enter Tryz.func56, Tryz.ntmps56
      go_wp2_with (first
          | (go_at_call 74; ((with_reducible refine (h1 _).mono ?_); rintro e w2 ⟨rfl, hb2⟩; have B2 := bgo (b3 _ _ _) hb2; obtain ⟨hc2, hf2⟩ := bcell hb2; obtain ⟨hx2, hy2, hv2⟩ := room (n := w.heap.size) (m := w2.heap.size) (by have := hb2.size; simp at this; omega); clear hb2))
          | (go_at_call 54; ((with_reducible refine (h2 _).mono ?_); rintro e w3 ⟨rfl, hb3⟩; have B3 := bgo B2 hb3; obtain ⟨hc3, hf3⟩ := bcell hb3; obtain ⟨hx3, hy3, hv3⟩ := room (n := w.heap.size) (m := w3.heap.size) (by have := hb3.size; omega); clear hb3))
          | (go_at_call 95; ((with_reducible refine (h3 _).mono ?_); rintro e w4 ⟨rfl, hb4⟩; have B4 := bgo B3 hb4; obtain ⟨hc4, hf4⟩ := bcell hb4; obtain ⟨hx4, hy4, hv4⟩ := room (n := w.heap.size) (m := w4.heap.size) (by have := hb4.size; omega); clear hb4)))
      refine bodyPost_ret (v := .tuple #[.agg #[.int .i64 0, .int .i64 0, .bool false], .int .i64 F]) (by simp [results, Tryz.results56, go_sem, *]) rfl ⟨rfl, ?_⟩
      exact bset (bset (bset B3 _ _ _ (by omega)) _ _ _ (by omega)) _ _ _ (by omega)
  · have hE2 : (E != 0) = true := by simp [hE]
    rw [if_pos hE]
    clear hE
    go_enter Tryz.func56, Tryz.ntmps56
    go_wp2_with (first
        | (go_at_call 74; ((with_reducible refine (h1 _).mono ?_); rintro e w2 ⟨rfl, hb2⟩; have B2 := bgo (b3 _ _ _) hb2; obtain ⟨hc2, hf2⟩ := bcell hb2; obtain ⟨hx2, hy2, hv2⟩ := room (n := w.heap.size) (m := w2.heap.size) (by have := hb2.size; simp at this; omega); clear hb2))
        | (go_at_call 54; ((with_reducible refine (h2 _).mono ?_); rintro e w3 ⟨rfl, hb3⟩; have B3 := bgo B2 hb3; obtain ⟨hc3, hf3⟩ := bcell hb3; obtain ⟨hx3, hy3, hv3⟩ := room (n := w.heap.size) (m := w3.heap.size) (by have := hb3.size; omega); clear hb3))
        | (go_at_call 95; ((with_reducible refine (h3 _).mono ?_); rintro e w4 ⟨rfl, hb4⟩; have B4 := bgo B3 hb4; obtain ⟨hc4, hf4⟩ := bcell hb4; obtain ⟨hx4, hy4, hv4⟩ := room (n := w.heap.size) (m := w4.heap.size) (by have := hb4.size; omega); clear hb4)))
    refine bodyPost_ret (v := .tuple #[.agg #[.int .i64 0, .int .i64 0, .bool false], .int .i64 E]) (by simp [results, Tryz.results56, go_sem, *]) rfl ⟨rfl, ?_⟩
    exact bset (bset (bset B2 _ _ _ (by omega)) _ _ _ (by omega)) _ _ _ (by omega)
end Go.Proofs.YtjibbnknliamkaaGreatDoor
namespace Go.Proofs.YtjibbnknliamkaaGreatDoor
open Go.RowKit
set_option linter.unusedVariables false
set_option linter.unusedSimpArgs false
theorem isSize_any (S : Int) (w : World) :
    Calls Tryz.prog 181 #[.int .i64 S] w fun e w' => e = .returned (.bool (decide (1 ≤ S) && decide (S ≤ 64))) ∧ w = w' := by
  go_enter Tryz.func181, Tryz.ntmps181
  go_wp2
  all_goals
    go_ret
    exact ⟨ret_bool (by simp [*] <;> omega), rfl⟩
theorem isShape_any (D S : Int) (w : World) :
    Calls Tryz.prog 139 #[.int .i64 D, .int .i64 S] w fun e w' => e = .returned (.bool (shpB D S)) ∧ w = w' := by
  unfold shpB
  have h := fun w => isSize_any S w
  generalize (decide (1 ≤ S) && decide (S ≤ 64)) = Z at *
  go_enter Tryz.func139, Tryz.ntmps139
  go_wp2_with (go_at_call 181; refine (h _).mono ?_; rintro e w' ⟨rfl, rfl⟩)
  all_goals
    go_ret
    exact ⟨ret_bool (by simp [*] <;> omega), rfl⟩
end Go.Proofs.YtjibbnknliamkaaGreatDoor
