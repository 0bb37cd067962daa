/- IntRow, Cm, RTally, CmCol, CmVal: in one text. -/
import Derived.Test.YtcndobdbjillpaaGreatDoorPk01
import Derived.Test.YtcndobdbjillpaaGreatDoorProg
import Derived.Test.YtcndobdbjillpaaGreatDoorPk00
import Derived.Deep.RegionLaw
import Derived.Deep.QuietTactic
import Derived.BigQuiet
import Derived.ProofKit
import Derived.Handy
import Derived.Lib.Hide
import Derived.Laws.Cover3
import Derived.Laws.FloatArith
import Derived.Lib.SliceRun
namespace Go.Proofs.YtcndobdbjillpaaGreatDoor
open Go.RowKit
set_option linter.unusedVariables false
set_option linter.unusedSimpArgs false
theorem info_int : (Tryz.prog.info? 3).map (fun i => (i.zero, i.size, i.bytes)) = some (some (.int .i64 0), 1, 8) := by kernel_rfl
/-- Ints of 64 bits. -/
def Rng (L : List Int) : Prop := ∀ n ∈ L, -9223372036854775808 ≤ n ∧ n ≤ 9223372036854775807
theorem Rng.nil : Rng [] := fun _ h => by cases h
theorem Rng.at_ {L : List Int} (h : Rng L) (k : Nat) : -9223372036854775808 ≤ L.getD k 0 ∧ L.getD k 0 ≤ 9223372036854775807 := by
  by_cases hk : k < L.length
  · have := h L[k] (List.getElem_mem hk)
    simpa [List.getD, hk] using this
  · simp [List.getD, List.getElem?_eq_none (Nat.le_of_not_lt hk)]
theorem Rng.set {L : List Int} (h : Rng L) (j : Nat) {c : Int} (hc : -9223372036854775808 ≤ c ∧ c ≤ 9223372036854775807) : Rng (L.set j c) := fun x hx => by
  rcases List.mem_or_eq_of_mem_set hx with h' | rfl
  · exact h x h'
  · exact hc
theorem Rng.rep {c : Int} (n : Nat) (h : -9223372036854775808 ≤ c ∧ c ≤ 9223372036854775807) : Rng (List.replicate n c) := fun x hx => by
  rw [List.eq_of_mem_replicate hx]
  exact h
def cellsI (L : List Int) : List Value := L.map (Value.int .i64)
theorem cellsI_at {L : List Int} {j : Nat} (h : j < L.length) : (cellsI L)[j]? = some (.int .i64 (L.getD j 0)) := by simp [cellsI, List.getD, h]
theorem cellsI_set (L : List Int) (j : Nat) (c : Int) : (cellsI L).set j (.int .i64 c) = cellsI (L.set j c) := by simp [cellsI, List.map_set]
/-- A slice of ints of the call's own. -/
def OwnI (B : Nat) (L : List Int) (v : Value) (w : World) : Prop := Rng L ∧ w.ownsRow B 3 1 v L.length (cellsI L)
theorem RdI.drewN {L : List Int} {v : Value} {w : World} (h : RdI L v w) (n : Nat) : RdI L v (w.drewN n) := h
theorem OwnI.rd {B : Nat} {L : List Int} {v : Value} {w : World} (h : OwnI B L v w) : RdI L v w := by
  obtain ⟨hy, ho⟩ := h
  have hl := World.ownsRow.lt ho
  refine ⟨hy, ?_⟩
  rcases ho.2 with ⟨rfl, hn⟩ | ⟨g, cap, cur, rfl, hb, _, h1, h2, _⟩
  · exact ⟨none, 0, by rw [hn], by omega, by simp [maxLen], fun hp => by omega⟩
  · exact ⟨some ⟨g, 0, none⟩, cap, rfl, h1, h2, fun hp => ⟨g, 0, rfl, (hl g rfl).2, fun j hj => by
      rw [Nat.zero_add]; exact (World.ownsRow.cellAt ho j (by omega)).trans (cellsI_at hj)⟩⟩
theorem RdI.shape {L : List Int} {v : Value} {w : World} (h : RdI L v w) : ∃ a cap, v = .slice a L.length cap := by
  obtain ⟨_, a, cap, rfl, _⟩ := h
  exact ⟨a, cap, rfl⟩
theorem OwnI.mono {B B' : Nat} {L : List Int} {v : Value} {w : World} (h : OwnI B L v w) (hB : B' ≤ B) : OwnI B' L v w := by
  obtain ⟨hy, h1, h2⟩ := h
  refine ⟨hy, h1, ?_⟩
  rcases h2 with h2 | ⟨g, cap, cur, rfl, hb, r⟩
  · exact .inl h2
  · exact .inr ⟨g, cap, cur, rfl, Nat.le_trans hB hb, r⟩
theorem OwnI.alloc {B : Nat} {L : List Int} {v : Value} {w : World} (h : OwnI B L v w) (o : Obj) : OwnI B L v (w.alloc o) := ⟨h.1, World.ownsRow.alloc h.2 o⟩
theorem OwnI.below {B : Nat} {L : List Int} {v : Value} {w w' : World} (h : OwnI B L v w) (hb : Below w.heap.size w w') : OwnI B L v w' := by
  obtain ⟨hy, h1, h2⟩ := h
  refine ⟨hy, h1, ?_⟩
  rcases h2 with h2 | ⟨g, cap, cur, rfl, hb', hg, r⟩
  · exact .inl h2
  · exact .inr ⟨g, cap, cur, rfl, hb', (hb.block g (Array.getElem?_eq_some_iff.1 hg).1).trans hg, r⟩
theorem OwnI.empty (B : Nat) (w : World) : OwnI B [] (.slice none 0 0) w := ⟨Rng.nil, World.ownsRow_nil _ _ _ _⟩
theorem OwnI.drewN {B : Nat} {L : List Int} {v : Value} {w : World} (h : OwnI B L v w) (n : Nat) : OwnI B L v (w.drewN n) := h
/-- It stays where a block below it is written. -/
theorem OwnI.keep {B b : Nat} {L : List Int} {v : Value} {w : World} (h : OwnI B L v w) (hb : b < B) (o : Nat) (u : Value) : OwnI B L v (w.setCell ⟨b, o, none⟩ u) := ⟨h.1, ownsRow_setCell_below h.2 hb u⟩
section
variable {w : World}
/-- 'make([]int, n)': zeros of the call's own. -/
theorem wp_makeI {ops : Array Oper} {rest : List Oper} {o : Oper} {a : Act} {Q : Exit → Act → World → Prop} (hgd : o.guard = none) (l c : Operand)
    (ho : o.op = Op.makeSlice 28 l c) (N : Nat) (hl : a.eval l = .int .i64 (N : Int)) (hc : a.eval c = .int .i64 (N : Int)) (hN : N ≤ 35184372088832)
    (h : ∀ w' : World, OwnI w.heap.size (List.replicate N 0) (.slice (some ⟨w.heap.size, 0, none⟩) N N) w' → Below w.heap.size w w' → w.heap.size < w'.heap.size → wpList Tryz.prog ops Q rest (a.put o.dst (.slice (some ⟨w.heap.size, 0, none⟩) N N)) w') : wpList Tryz.prog ops Q (o :: rest) a w := by
  obtain ⟨i0, hi, hz0, hz1, hz2⟩ := info_parts info_int
  refine wpList_make_full w hgd l c 28 ho w.heap.size 3 i0 (.int .i64 0) 1 Tryz.underlying28 hi hz0 hz1 .i64 .i64 N N N hl hc rfl rfl (by rw [hz2]; omega) (by unfold maxLen; omega) (Nat.le_refl _) ?_
  intro w1 hown hgrow
  have ho : w1.ownsRow w.heap.size 3 1 (.slice (some ⟨w.heap.size, 0, none⟩) N N) (List.replicate N (0 : Int)).length (cellsI (List.replicate N 0)) := by
    rw [show (Value.int .i64 0).cells = #[Value.int .i64 0] from rfl, toList_madeCells_one, Nat.mul_one] at hown
    have e : cellsI (List.replicate N 0) = List.replicate N (Value.int .i64 0) := by simp [cellsI]
    rw [e, List.length_replicate]
    exact hown
  exact h w1 ⟨Rng.rep N (by omega), ho⟩ ((Below.refl _ _).grown hgrow (Nat.le_refl _) (fun _ h => by cases h)) (World.ownsRow.lt ho _ rfl).2
end
/-- An own slice with an element: its cells, and what a store leaves. -/
theorem OwnI.cells {B : Nat} {L : List Int} {a : Option Addr} {n cap : Nat} {w : World} (h : OwnI B L (.slice a n cap) w) (hp : 0 < L.length) :
    ∃ g, a = some ⟨g, 0, none⟩ ∧ B ≤ g ∧ g < w.heap.size ∧ (∀ j, j < L.length → w.cell? ⟨g, j, none⟩ = some (.int .i64 (L.getD j 0)) ∧ w.frozen? ⟨g, j, none⟩ = false) ∧
      ∀ j c, -9223372036854775808 ≤ c ∧ c ≤ 9223372036854775807 → OwnI B (L.set j c) (.slice (some ⟨g, 0, none⟩) n cap) (w.setCell ⟨g, j, none⟩ (.int .i64 c)) := by
  obtain ⟨hy, ho⟩ := h
  have h2 := ho.2
  rcases h2 with ⟨he, hn⟩ | ⟨g, cap', cur, he, hb, _⟩
  · omega
  · simp only [Value.slice.injEq] at he
    obtain ⟨rfl, hnl, rfl⟩ := he
    subst hnl
    refine ⟨g, rfl, hb, (World.ownsRow.lt ho g rfl).2, fun j hj => ⟨(World.ownsRow.cellAt ho j (by omega)).trans (cellsI_at hj), World.ownsRow.frozenAt ho j⟩, fun j c hc => ⟨Rng.set hy j hc, ?_⟩⟩
    have := (World.ownsRow.stored ho j (.int .i64 c)).1
    rw [List.length_set]
    rw [cellsI_set] at this
    exact this
end Go.Proofs.YtcndobdbjillpaaGreatDoor
namespace Go.Proofs.YtcndobdbjillpaaGreatDoor
open Go.RowKit
set_option linter.unusedVariables false
set_option linter.unusedSimpArgs false
/-- A sketch: depth, size, seed, cells, flag. -/
structure CM where
  D : Int
  S : Int
  x : Int
  L : List Int
  s : Bool
def CM.none : CM := ⟨0, 0, 0, [], false⟩
/-- Depth and size are within their limits. -/
def shpB (D S : Int) : Bool := decide (1 ≤ D) && decide (D ≤ 8) && (decide (1 ≤ S) && decide (S ≤ 64))
theorem shpB_iff (D S : Int) : shpB D S = true ↔ 1 ≤ D ∧ D ≤ 8 ∧ 1 ≤ S ∧ S ≤ 64 := by
  unfold shpB
  simp [and_assoc]
/-- A cell is within its limits. -/
def celB (n : Int) : Bool := decide (0 ≤ n) && decide (n ≤ 4294967295)
theorem celB_iff (n : Int) : celB n = true ↔ 0 ≤ n ∧ n ≤ 4294967295 := by
  unfold celB
  simp
/-- The error of a sketch. -/
def cmE (D S : Int) (L : List Int) : Int := if shpB D S = false then 5 else if (L.length : Int) ≠ D * S then 18 else if L.all celB = true then 0 else 5
end Go.Proofs.YtcndobdbjillpaaGreatDoor
namespace Go.Proofs.YtcndobdbjillpaaGreatDoor
open Go.RowKit
set_option linter.unusedVariables false
set_option linter.unusedSimpArgs false
/-- A number from l to h. -/
def inW (n l h : Int) : Bool := decide (l ≤ n) && decide (n ≤ h)
theorem rwithin_any (n l h : Int) (w : World) :
    Calls Tryz.prog 117 #[.int .i64 n, .int .i64 l, .int .i64 h] w fun e w' => e = .returned (.bool (inW n l h)) ∧ w = w' := by
  unfold inW
  go_enter Tryz.func117, Tryz.ntmps117
  go_wp2
  all_goals
    go_ret
    exact ⟨ret_bool (by simp [*] <;> omega), rfl⟩
end Go.Proofs.YtcndobdbjillpaaGreatDoor
namespace Go.Proofs.YtcndobdbjillpaaGreatDoor
open Go.RowKit
set_option linter.unusedVariables false
set_option linter.unusedSimpArgs false
theorem isSize_any (S : Int) (w : World) :
    Calls Tryz.prog 245 #[.int .i64 S] w fun e w' => e = .returned (.bool (decide (1 ≤ S) && decide (S ≤ 64))) ∧ w = w' := by
  go_enter Tryz.func245, Tryz.ntmps245
  go_wp2
  all_goals
    go_ret
    exact ⟨ret_bool (by simp [*] <;> omega), rfl⟩
theorem isShape_any (D S : Int) (w : World) :
    Calls Tryz.prog 191 #[.int .i64 D, .int .i64 S] w fun e w' => e = .returned (.bool (shpB D S)) ∧ w = w' := by
  unfold shpB
  have h := fun w => isSize_any S w
  generalize (decide (1 ≤ S) && decide (S ≤ 64)) = Z at *
  go_enter Tryz.func191, Tryz.ntmps191
  go_wp2_with (go_at_call 245; refine (h _).mono ?_; rintro e w' ⟨rfl, rfl⟩)
  all_goals
    go_ret
    exact ⟨ret_bool (by simp [*] <;> omega), rfl⟩
end Go.Proofs.YtcndobdbjillpaaGreatDoor
namespace Go.Proofs.YtcndobdbjillpaaGreatDoor
open Go.RowKit
set_option linter.unusedVariables false
set_option linter.unusedSimpArgs false
theorem all_getD {p : Int → Bool} {L : List Int} (h : ∀ j, j < L.length → p (L.getD j 0) = true) : L.all p = true := by
  rw [List.all_eq_true]
  intro n hn
  obtain ⟨j, hj, rfl⟩ := List.mem_iff_getElem.1 hn
  have := h j hj
  simpa [List.getD, hj] using this
theorem not_all_getD {p : Int → Bool} {L : List Int} {j : Nat} (hj : j < L.length) (h : p (L.getD j 0) = false) : L.all p = false := by
  rw [List.all_eq_false]
  refine ⟨L[j], List.getElem_mem hj, ?_⟩
  simpa [List.getD, hj] using h
theorem upto_succ {p : Nat → Prop} {k : Nat} (h : ∀ j, j < k → p j) (hk : p k) : ∀ j, j < k + 1 → p j := fun j hj => by
  by_cases hjk : j < k
  · exact h j hjk
  · obtain rfl : j = k := by omega
    exact hk
theorem celB_no {n : Int} (h : celB n = false) : n < 0 ∨ 4294967295 < n := by
  unfold celB at h
  simp at h
  omega
theorem cmE_shp {D S : Int} {L : List Int} (h : shpB D S = false) : cmE D S L = 5 := by unfold cmE; rw [if_pos h]
theorem cmE_len {D S : Int} {L : List Int} (h : shpB D S = true) (h2 : ¬ (L.length : Int) = D * S) : cmE D S L = 18 := by unfold cmE; rw [if_neg (by rw [h]; simp), if_pos h2]
theorem cmE_bad {D S : Int} {L : List Int} (h : shpB D S = true) (h2 : (L.length : Int) = D * S) {j : Nat} (hj : j < L.length) (h3 : celB (L.getD j 0) = false) : cmE D S L = 5 := by
  unfold cmE
  rw [if_neg (by rw [h]; simp), if_neg (by omega), if_neg (by rw [not_all_getD hj h3]; simp)]
theorem cmE_all {D S : Int} {L : List Int} (h : shpB D S = true) (h2 : (L.length : Int) = D * S) (h3 : ∀ j, j < L.length → celB (L.getD j 0) = true) : cmE D S L = 0 := by
  unfold cmE
  rw [if_neg (by rw [h]; simp), if_neg (by omega), if_pos (all_getD h3)]
theorem shp_bd {D S : Int} (h : shpB D S = true) : 1 ≤ D ∧ D ≤ 8 ∧ 1 ≤ S ∧ S ≤ 64 ∧ 0 ≤ D * S ∧ D * S ≤ 512 := by
  obtain ⟨a, b, c, d⟩ := (shpB_iff D S).1 h
  have := Int.mul_nonneg (show 0 ≤ D by omega) (show 0 ≤ S by omega)
  have : D * S ≤ 8 * 64 := Int.mul_le_mul b d (by omega) (by omega)
  omega
set_option maxRecDepth 100000 in
set_option maxHeartbeats 1000000 in
theorem cval_any (D S x : Int) (L : List Int) (a : Option Addr) (n cap : Nat) (s : Bool) (w : World) (D0 : -9223372036854775808 ≤ D) (D1 : D ≤ 9223372036854775807) (S0 : -9223372036854775808 ≤ S) (S1 : S ≤ 9223372036854775807) (h : RdI L (.slice a n cap) w) :
    Calls Tryz.prog 121 #[.agg #[.int .i64 D, .int .i64 S, .int .u64 x, .slice a n cap, .bool s]] w fun e w' => e = .returned (.int .i64 (cmE D S L)) ∧ Below w.heap.size w w' := by
  obtain ⟨hy, a', cap', he, h1, h2, h3⟩ := h
  simp only [Value.slice.injEq] at he
  obtain ⟨rfl, rfl, rfl⟩ := he
  have hs := fun w => isShape_any D S w
  by_cases hE : shpB D S = false
  · rw [cmE_shp hE]
    rw [hE] at hs
    clear hE hy h1 h2 h3
    go_enter Tryz.func121, Tryz.ntmps121
    go_wp2_with (go_at_call 191; refine (hs _).mono ?_; rintro e w' ⟨rfl, rfl⟩)
    go_ret
    exact ⟨rfl, b1 _⟩
  · have hE : shpB D S = true := by simpa using hE
    obtain ⟨d0, d1, s0, s1, p0, p1⟩ := shp_bd hE
    have hl1 : (L.length : Int) ≤ 9223372036854775807 := by unfold maxLen at h2; omega
    by_cases hL : (L.length : Int) = D * S
    · have H5 := Lib.hid (fun j (hj : j < L.length) (h : celB (L.getD j 0) = false) => cmE_bad hE hL hj h)
      have H0 := Lib.hid (fun h => cmE_all hE hL h)
      rw [hE] at hs
      have HC := Lib.hid h3
      have HY := Lib.hid (fun k => Rng.at_ hy k)
      have hl2 : L.length ≤ 512 := by omega
      generalize cmE D S L = E at *
      clear hE hy h3 h1 h2
      go_enter Tryz.func121, Tryz.ntmps121
      go_wp2_with (go_at_call 191; refine (hs _).mono ?_; rintro e w' ⟨rfl, rfl⟩)
      go_loop [4, 23] (fun _ i => ∃ k : Nat, k ≤ L.length ∧ i = .int .i64 (k : Int) ∧ Hid (∀ j, j < k → celB (L.getD j 0) = true)) (fun _ i => L.length - (intOf i).toNat)
      case atStart => exact ⟨0, by omega, rfl, Lib.hid (fun j hj => by omega)⟩
      case round =>
        obtain ⟨k, hk, rfl, HA⟩ := hrel
        by_cases hlt : k < L.length
        · obtain ⟨b, off, rfl, hb, hcell⟩ := HC.out (by omega)
          have hc := hcell k hlt
          have hbd := HY.out k
          by_cases hcb : celB (L.getD k 0) = true
          · have HN := Lib.hid (upto_succ (p := fun j => celB (L.getD j 0) = true) HA.out hcb)
            have hq := (celB_iff _).1 hcb
            obtain ⟨q0, q1⟩ := hq
            clear hcb hcell
            generalize L.getD k 0 = z at *
            go_wp2
            go_round
            case rel => exact ⟨k + 1, by omega, by go_num, HN⟩
            case measure => simp [intOf]; omega
          · have hcb : celB (L.getD k 0) = false := by simpa using hcb
            have e5 := H5.out k hlt hcb
            have hq := celB_no hcb
            have E5 := Lib.hid e5
            clear hcb hcell H5 H0 e5
            generalize L.getD k 0 = z at *
            rcases hq with hq | hq
            · go_wp2
              go_ret
              exact ⟨ret_int E5.out.symm, b1 _⟩
            · have hq0 : ¬ z < 0 := by omega
              go_wp2
              go_ret
              exact ⟨ret_int E5.out.symm, b1 _⟩
        · obtain rfl : k = L.length := by omega
          have E0 := Lib.hid (H0.out HA.out)
          go_wp2
          go_ret
          exact ⟨ret_int E0.out.symm, b1 _⟩
    · rw [cmE_len hE hL]
      rw [hE] at hs
      have hL2 : ((L.length : Int) != D * S) = true := by simpa using hL
      clear hE hy h1 h2 h3
      go_enter Tryz.func121, Tryz.ntmps121
      go_wp2_with (go_at_call 191; refine (hs _).mono ?_; rintro e w' ⟨rfl, rfl⟩)
      go_ret
      exact ⟨rfl, b1 _⟩
end Go.Proofs.YtcndobdbjillpaaGreatDoor
