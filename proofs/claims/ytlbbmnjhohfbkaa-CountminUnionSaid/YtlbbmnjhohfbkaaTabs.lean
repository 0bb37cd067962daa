/- The contracts of Table of package mixer, and of the reference's: a new slice of the table's words. -/
import Derived.Test.YtlbbmnjhohfbkaaMix
import Derived.Lib.Hide
namespace Go.Proofs.Ytlbbmnjhohfbkaa
open Go.RowKit
set_option linter.unusedVariables false
set_option linter.unusedSimpArgs false
theorem info_u64 : (Try.prog.info? 22).map (fun i => (i.zero, i.size, i.bytes)) = some (some (.int .u64 0), 1, 8) := by kernel_rfl
theorem tab_step {seed m : Int} {k : Nat} (h : tabI seed k = m) : tab seed (k + 1) = tab seed k ++ [m] := by subst h; exact tab_succ seed k
theorem tab_at {seed m : Int} {k : Nat} (h : tabI seed k = m) : mixI (IntKind.u64.wrap (seed + IntKind.u64.wrap (((k : Int) + 1) * 11400714819323198485))) = m := by
  subst h; unfold tabI; push_cast; rfl
theorem rmix_at {x m : Int} (w : World) (h : mixI x = m) : Calls Try.prog 64 #[.int .u64 x] w fun e w' => e = .returned (.int .u64 m) ∧ w = w' := by
  subst h; exact rmix_any x w
/-- A slice of words of the call's own, which holds L. -/
def Words (B : Nat) (L : List Int) (v : Value) (w : World) : Prop := w.ownsRow B 22 1 v L.length (L.map fun n : Int => Value.int .u64 n)
theorem words_step {B : Nat} {L : List Int} {k : Int} {v : Value} {w : World} (h : w.ownsRow B 22 1 v (L.length + 1) ((L.map fun n : Int => Value.int .u64 n) ++ [.int .u64 k])) : Words B (L ++ [k]) v w := by
  unfold Words
  simpa using h
/-- The table as it fills: k words, the rest is 0. -/
def filled (seed : Int) (k : Nat) : List Value := (tab seed k ++ List.replicate (256 - k) 0).map fun n : Int => Value.int .u64 n
theorem filled_zero (seed : Int) : (madeCells (Value.int .u64 0).cells (256 * 1)).toList = filled seed 0 := by
  rw [show (Value.int .u64 0).cells = #[Value.int .u64 0] from rfl, toList_madeCells_one]
  unfold filled
  rw [show tab seed 0 = [] from rfl, List.nil_append, Nat.sub_zero, List.map_replicate]
theorem filled_at (seed : Int) (k : Nat) (h : k < 256) : (filled seed k)[k]? = some (.int .u64 0) := by
  simp only [filled, List.map_append]
  rw [List.getElem?_append_right (by simp [tab_len]), List.map_replicate, List.length_map, tab_len, Nat.sub_self, List.getElem?_replicate, if_pos (by omega)]
theorem filled_step {seed m : Int} {k : Nat} (h : k < 256) (hm : tabI seed k = m) : (filled seed k).set k (.int .u64 m) = filled seed (k + 1) := by
  have e : 256 - k = (256 - (k + 1)) + 1 := by omega
  subst hm
  simp only [filled, List.map_append]
  rw [List.set_append_right _ _ (by simp [tab_len]), e, List.replicate_succ, tab_succ]
  simp [tab_len]
theorem filled_all (seed : Int) : filled seed 256 = (tab seed 256).map fun n : Int => Value.int .u64 n := by
  unfold filled
  rw [Nat.sub_self, List.replicate_zero, List.append_nil]
theorem up_at {seed m : Int} {k : Nat} (h : tabI seed k = m) : mixI (up seed (k + 1)) = m := by subst h; exact up_tab seed k
theorem mix_at {x m : Int} (w : World) (h : mixI x = m) : Calls Try.prog 63 #[.int .u64 x] w fun e w' => e = .returned (.int .u64 m) ∧ w = w' := by
  subst h; exact mix_any x w
set_option maxRecDepth 100000 in
set_option maxHeartbeats 1000000 in
theorem table_any (seed : Int) (w : World) (h0 : 0 ≤ seed) (h1 : seed ≤ 18446744073709551615) :
    Calls Try.prog 37 #[.int .u64 seed] w fun e w' => ∃ v, e = .returned v ∧ Words w.heap.size (tab seed 256) v w' ∧ Below w.heap.size w w' := by
  obtain ⟨i0, hi, hz0, hz1, hz2⟩ := info_parts info_u64
  have hb : i0.bytes * 256 ≤ 281474976710656 := by rw [hz2]; decide
  have H0 := Lib.hid (up_zero seed h0 h1)
  clear h0 h1
  go_enter Try.func37, Try.ntmps37
  go_wp2_with (with_reducible refine wpList_make_full _ rfl _ _ 60 rfl w.heap.size 22 i0 (.int .u64 0) 1 Try.underlying60 hi hz0 hz1 .i64 .i64 256 256 256 rfl rfl rfl rfl hb (by decide) (Nat.le_refl _) ?_; intro w1 hown hgrow)
  rw [filled_zero seed] at hown
  have hbel : Below w.heap.size w w1 := (Below.refl _ _).grown hgrow (Nat.le_refl _) (fun _ h => by cases h)
  go_loopw [0, 8] (fun s i wr => ∃ k : Nat, k ≤ 256 ∧ i = .int .i64 (k : Int) ∧ s = .int .u64 (up seed k) ∧ wr.ownsRow w.heap.size 22 1 (.slice (some ⟨w.heap.size, 0, none⟩) 256 256) 256 (filled seed k) ∧ Below w.heap.size w wr)
    (fun _ i _ => 256 - (intOf i).toNat)
  case atStart => exact ⟨0, by omega, rfl, by rw [H0.out], hown, hbel⟩
  case round =>
    clear hown hbel hgrow
    obtain ⟨k, hk, rfl, rfl, hown, hnx⟩ := hrel
    by_cases hlt : k < 256
    · obtain ⟨m, hmm⟩ : ∃ m, tabI seed k = m := ⟨_, rfl⟩
      have hm := fun w => mix_at w (up_at hmm)
      have hstep := up_succ seed k
      have hc : wr.cell? ⟨w.heap.size, k, none⟩ = some (.int .u64 0) := (hown.cellAt k (by omega)).trans (filled_at seed k hlt)
      have hf : wr.frozen? ⟨w.heap.size, k, none⟩ = false := hown.frozenAt k
      have hrel := hown.stored k (.int .u64 m)
      rw [filled_step hlt hmm] at hrel
      have hbel : Below w.heap.size w (wr.setCell ⟨w.heap.size, k, none⟩ (.int .u64 m)) := hnx.setCell (Nat.le_refl _) _
      have H1 := Lib.hid hrel.1
      have H2 := Lib.hid hbel
      obtain ⟨s', HS⟩ : ∃ s', Hid (up seed (k + 1) = s') := ⟨_, rfl⟩
      rw [HS.out] at hm hstep
      clear hrel hbel hmm hown hnx
      go_wp2_with (go_at_call 63; refine (hm _).mono ?_; rintro e w' ⟨rfl, rfl⟩)
      go_roundw
      case rel => exact ⟨k + 1, by omega, by go_num, by rw [HS.out], H1.out, H2.out⟩
      case measure => simp [intOf]; omega
    · obtain rfl : k = 256 := by omega
      rw [filled_all] at hown
      have H2 := Lib.hid hown
      have H3 := Lib.hid hnx
      clear hown hnx
      go_wp2
      go_ret
      refine ⟨_, rfl, ?_, H3.out⟩
      unfold Words
      rw [tab_len]
      exact H2.out
set_option maxRecDepth 100000 in
set_option maxHeartbeats 1000000 in
theorem rtable_any (seed : Int) (w : World) (h0 : 0 ≤ seed) (h1 : seed ≤ 18446744073709551615) :
    Calls Try.prog 41 #[.int .u64 seed] w fun e w' => ∃ v, e = .returned v ∧ Words w.heap.size (tab seed 256) v w' ∧ Below w.heap.size w w' := by
  obtain ⟨i0, hi, hz0, hz1, hz2⟩ := info_parts info_u64
  go_enter Try.func41, Try.ntmps41
  go_wp2
  go_loopw [3, 4] (fun v i wr => ∃ k : Nat, k ≤ 256 ∧ i = .int .u64 ((k : Int) + 1) ∧ Words w.heap.size (tab seed k) v wr ∧ Below w.heap.size w wr)
    (fun _ i _ => 257 - (intOf i).toNat)
  case atStart => exact ⟨0, by omega, rfl, World.ownsRow_nil _ _ _ _, Below.refl _ _⟩
  case round =>
    obtain ⟨k, hk, rfl, hown, hnx⟩ := hrel
    have hsz := hnx.size
    have hl := tab_len seed k
    by_cases hlt : k < 256
    · obtain ⟨m, hmm⟩ : ∃ m, tabI seed k = m := ⟨_, rfl⟩
      have hs := tab_step hmm
      have hm := fun w => rmix_at w (tab_at hmm)
      clear hmm
      have H1 := Lib.hid hs
      have H2 := Lib.hid hl
      clear hs hl h0 h1
      go_wp2_with (first
        | (go_at_call 64; refine (hm _).mono ?_; rintro e w' ⟨rfl, rfl⟩)
        | (at_builtin; refine wpList_append_own _ rfl _ _ 60 rfl w.heap.size 22 i0 (.int .u64 0) 1 8 Try.underlying60 hi hz0 hz1 hz2 rfl (by decide) _ _ _ rfl (World.ownsRow.alloc hown _) ⟨wr.heap.size, 0, none⟩ 1 1 [.int .u64 m] rfl rfl ?c1 ?c2 ?c3 ?c4 ?c5 ?_))
      case c1 =>
        intro j u hj
        match j, hj with
        | 0, hj => simp at hj; subst hj; simp [Addr.add]
      case c2 => intro u hu; simp at hu; subst hu; rfl
      case c3 => have := H2.out; unfold maxLen; omega
      case c4 => have := H2.out; omega
      case c5 => simp; omega
      · intro v' w1 hown' hgrow _
        have hstep := words_step hown'
        have hbel : Below w.heap.size w w1 := (hnx.alloc hsz _).grown hgrow (by simp; omega) (fun g hg' => (hown.lt g hg').1)
        have H5 := Lib.hid hstep
        have H6 := Lib.hid hbel
        clear hstep hbel hown' hgrow hown hnx hm
        go_wp2
        go_roundw
        case rel => exact ⟨k + 1, by omega, by go_num, by rw [H1.out]; exact H5.out, H6.out⟩
        case measure => simp [intOf]; omega
    · obtain rfl : k = 256 := by omega
      have H2 := Lib.hid hown
      have H3 := Lib.hid hnx
      clear hown hnx hl
      go_wp2
      go_ret
      exact ⟨_, rfl, H2.out, H3.out⟩
end Go.Proofs.Ytlbbmnjhohfbkaa
