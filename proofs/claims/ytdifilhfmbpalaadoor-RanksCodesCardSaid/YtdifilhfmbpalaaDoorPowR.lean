/- The contracts of Powers of both, beside the words for slices of ints. -/
import Derived.Test.YtdifilhfmbpalaaDoorSat
import Derived.Test.YtdifilhfmbpalaaDoorPowNums
import Derived.Test.YtdifilhfmbpalaaDoorIntRow
import Derived.Test.YtdifilhfmbpalaaDoorWords
import Derived.Lib.Hide
namespace Go.Proofs.YtdifilhfmbpalaaDoor
open Go.RowKit
set_option linter.unusedVariables false
set_option linter.unusedSimpArgs false
/-- A slice of ints of the call's own, which holds L. -/
def Made (B : Nat) (L : List Nat) (v : Value) (w : World) : Prop := w.ownsRow B 3 1 v L.length (L.map fun n : Nat => Value.int .i64 (n : Int))
theorem made_step {B : Nat} {L : List Nat} {k : Nat} {v : Value} {w : World} (h : w.ownsRow B 3 1 v (L.length + 1) ((L.map fun n : Nat => Value.int .i64 (n : Int)) ++ [.int .i64 k])) : Made B (L ++ [k]) v w := by
  unfold Made
  simpa using h
theorem gt_pos {s : Nat} (h : 0 < s) : bits .and .u64 (s : Int) ((s : Int) - 1) = ((s &&& (s - 1) : Nat) : Int) ∨ 18446744073709551616 ≤ s := by
  by_cases hs : s < 18446744073709551616
  · left
    have e : (s : Int) - 1 = ((s - 1 : Nat) : Int) := by omega
    rw [e]
    exact bits_and_u64_nat s (s - 1) hs (by omega)
  · right; omega
set_option maxRecDepth 100000 in
set_option maxHeartbeats 1000000 in
theorem powers_any (n : Int) (r : Nat) (w : World) (hr : nat0 n = r) (h0 : -9223372036854775808 ≤ n) (h1 : n ≤ 9223372036854775807) (hg : 0 < w.heap.size) (hT : TabAt 0 Lib.deBruijn64tab w) :
    Calls Tryd.prog 70 #[.int .i64 n] w fun e w' => ∃ v, e = .returned v ∧ Made w.heap.size (pows r 63) v w' ∧ Below w.heap.size w w' := by
  have hb := nat0_bd n h1
  have hr63 : r < 9223372036854775808 := by omega
  have hw : ∀ w, Calls Tryd.prog 86 #[.int .i64 n] w fun e w' => e = .returned (.int .u64 (r : Int)) ∧ w = w' := fun w => hr ▸ word_any n w h0 h1
  obtain ⟨i0, hi, hz0, hz1, hz2⟩ := info_parts info_int
  clear hr hb
  go_enter Tryd.func70, Tryd.ntmps70
  go_wp2_with (go_at_call 86; refine (hw _).mono ?_; rintro e w' ⟨rfl, rfl⟩)
  go_loopw [3, 4] (fun v s wr => ∃ c : Nat, c ≤ 63 ∧ s = .int .u64 (above r c : Nat) ∧ Made w.heap.size (pows r c) v wr ∧ Below w.heap.size w wr)
    (fun _ s _ => (intOf s).toNat)
  case atStart => exact ⟨0, by omega, by rw [above_zero], World.ownsRow_nil _ _ _ _, Below.refl _ _⟩
  case round =>
    obtain ⟨c, hc, rfl, hown, hnx⟩ := hrel
    have hle := above_le r c
    by_cases hpos : 0 < above r c
    · obtain ⟨k, hk, hk63, hstr, hlt, hpw⟩ := lowest_step hr63 hc hpos
      have hT' : above r c ≠ 0 → TabAt 0 Lib.deBruijn64tab wr := fun _ j hj => (hnx.cell (by exact hg)).trans (hT j hj)
      have htz : ∀ ww, (∀ j, j < Lib.deBruijn64tab.length → ww.cell? ⟨0, j, none⟩ = some (.int .u8 (Lib.deBruijn64tab.getD j 0))) → Calls Tryd.prog 88 #[.int .u64 (above r c : Nat)] ww fun e w' => e = .returned (.int .i64 k) ∧ ww = w' :=
        fun ww h => ((Tryd.tz64 (above r c) (by omega) ww (fun _ => h)).mono fun _ _ h => ⟨by rw [h.1, hk], h.2.symm⟩)
      have htz := htz wr (hT' (by omega))
      have hand : bits .and .u64 ((above r c : Nat) : Int) (((above r c : Nat) : Int) - 1) = ((above r (k + 1) : Nat) : Int) := by
        rcases gt_pos hpos with h | h
        · rw [h, hstr]
        · omega
      generalize ha : above r c = a at *
      generalize hb : above r (k + 1) = b at *
      have hpl := pows_le r c
      have hsz := hnx.size
      have H1 := Lib.hid hpw
      have H2 := Lib.hid ha
      have H3 := Lib.hid hb
      have H4 := Lib.hid hstr
      clear hpw ha hb hstr hT' hk hw hT
      go_wp2_with (first
        | (go_at_call 88; refine htz.mono ?_; rintro e w' ⟨rfl, rfl⟩)
        | (at_builtin; refine wpList_append_own _ rfl _ _ 22 rfl w.heap.size 3 i0 (.int .i64 0) 1 8 Tryd.underlying22 hi hz0 hz1 hz2 rfl (by decide) _ _ _ rfl (World.ownsRow.alloc hown _) ⟨wr.heap.size, 0, none⟩ 1 1 [.int .i64 (k : Int)] rfl rfl ?c1 ?c2 ?c3 ?c4 ?c5 ?_))
      case c1 =>
        intro j u hj
        match j, hj with
        | 0, hj => simp at hj; subst hj; simp [Addr.add]
      case c2 => intro u hu; simp at hu; subst hu; rfl
      case c3 => unfold maxLen; omega
      case c4 => omega
      case c5 => simp; omega
      · intro v' w1 hown' hgrow _
        have hstep := made_step hown'
        have hbel : Below w.heap.size w w1 := (hnx.alloc hsz _).grown hgrow (by simp; omega) (fun g hg' => (hown.lt g hg').1)
        have H5 := Lib.hid hstep
        have H6 := Lib.hid hbel
        clear hstep hbel hown' hgrow hown hnx htz
        go_wp2
        go_roundw
        case rel => exact ⟨k + 1, by omega, by rw [H3.out], by rw [H1.out]; exact H5.out, H6.out⟩
        case measure => simp [intOf]; omega
    · have hz : above r c = 0 := by omega
      have hd := pows_done hr63 hc hz
      rw [hz]
      have H1 := Lib.hid hd
      have H2 := Lib.hid hown
      have H3 := Lib.hid hnx
      clear hd hown hnx hz hpos hT hw
      go_wp2
      go_ret
      exact ⟨_, rfl, H1.out ▸ H2.out, H3.out⟩
/-- As ints of the call's own. -/
theorem made_own {B : Nat} {L : List Nat} {v : Value} {w : World} (h : Made B L v w) (hL : ∀ n ∈ L, n < 64) : OwnI B (L.map fun n : Nat => (n : Int)) v w := by
  refine ⟨fun n hn => ?_, ?_⟩
  · obtain ⟨m, hm, rfl⟩ := List.mem_map.1 hn
    have := hL m hm
    omega
  · unfold Made at h
    rw [List.length_map, cellsI, List.map_map]
    exact h
set_option maxRecDepth 100000 in
theorem ref_powers_none (n : Int) (w : World) (h : n ≤ 0) :
    Calls Tryd.prog 40 #[.int .i64 n] w fun e w' => ∃ v, e = .returned v ∧ Made w.heap.size (pows 0 63) v w' ∧ Below w.heap.size w w' := by
  have hp : pows 0 63 = [] := by decide
  go_enter Tryd.func40, Tryd.ntmps40
  go_wp2
  refine wp_loop_rounds 1 ?_
  rw [rounds_succ]
  go_wp2
  go_ret
  exact ⟨_, rfl, by rw [hp]; exact World.ownsRow_nil _ _ _ _, Below.refl _ _⟩
set_option maxRecDepth 100000 in
set_option maxHeartbeats 1000000 in
theorem ref_powers_some (r : Nat) (w : World) (h0 : 0 < r) (h1 : r < 9223372036854775808) :
    Calls Tryd.prog 40 #[.int .i64 r] w fun e w' => ∃ v, e = .returned v ∧ Made w.heap.size (pows r 63) v w' ∧ Below w.heap.size w w' := by
  obtain ⟨i0, hi, hz0, hz1, hz2⟩ := info_parts info_int
  go_enter Tryd.func40, Tryd.ntmps40
  go_wp2
  go_loopw [3, 4] (fun v i wr => ∃ c : Nat, c ≤ 63 ∧ i = .int .i64 c ∧ Made w.heap.size (pows r c) v wr ∧ Below w.heap.size w wr)
    (fun _ i _ => 63 - (intOf i).toNat)
  case atStart => exact ⟨0, by omega, rfl, World.ownsRow_nil _ _ _ _, Below.refl _ _⟩
  case round =>
    obtain ⟨c, hc, rfl, hown, hnx⟩ := hrel
    have hsz := hnx.size
    have hpl := pows_le r c
    by_cases hlt : c < 63
    · have hu := i64_bit r c h1
      cases hb : r.testBit c
      · rw [hb] at hu
        have hu' : (bits BinOp.and IntKind.i64 ((r : Int) / 2 ^ c) 1 == 1) = false := by rw [hu]; rfl
        have H := Lib.hid (pows_succ_miss hb)
        have H2 := Lib.hid hown
        have H3 := Lib.hid hnx
        clear hu hb hown hnx
        go_wp2
        go_roundw
        case rel => exact ⟨c + 1, by omega, by go_num, by rw [H.out]; exact H2.out, H3.out⟩
        case measure => simp [intOf]; omega
      · rw [hb] at hu
        have hu' : (bits BinOp.and IntKind.i64 ((r : Int) / 2 ^ c) 1 == 1) = true := by rw [hu]; rfl
        have H := Lib.hid (pows_succ_hit hb)
        clear hu hb
        go_wp2_with (at_builtin; refine wpList_append_own _ rfl _ _ 22 rfl w.heap.size 3 i0 (.int .i64 0) 1 8 Tryd.underlying22 hi hz0 hz1 hz2 rfl (by decide) _ _ _ rfl (World.ownsRow.alloc hown _) ⟨wr.heap.size, 0, none⟩ 1 1 [.int .i64 (c : Int)] rfl rfl ?c1 ?c2 ?c3 ?c4 ?c5 ?_)
        case c1 =>
          intro j u hj
          match j, hj with
          | 0, hj => simp at hj; subst hj; simp [Addr.add]
        case c2 => intro u hu; simp at hu; subst hu; rfl
        case c3 => unfold maxLen; omega
        case c4 => omega
        case c5 => simp; omega
        · intro v' w1 hown' hgrow _
          have H5 := Lib.hid (made_step hown')
          have H6 := Lib.hid ((hnx.alloc hsz _).grown hgrow (by simp; omega) (fun g hg' => (World.ownsRow.lt hown g hg').1))
          clear hown' hgrow hown hnx
          go_wp2
          go_roundw
          case rel => exact ⟨c + 1, by omega, by go_num, by rw [H.out]; exact H5.out, H6.out⟩
          case measure => simp [intOf]; omega
    · obtain rfl : c = 63 := by omega
      have H2 := Lib.hid hown
      have H3 := Lib.hid hnx
      clear hown hnx
      go_wp2
      go_ret
      exact ⟨_, rfl, H2.out, H3.out⟩
theorem ref_powers_any (n : Int) (r : Nat) (w : World) (hr : nat0 n = r) (h1 : n ≤ 9223372036854775807) :
    Calls Tryd.prog 40 #[.int .i64 n] w fun e w' => ∃ v, e = .returned v ∧ Made w.heap.size (pows r 63) v w' ∧ Below w.heap.size w w' := by
  unfold nat0 at hr
  by_cases h : n ≤ 0
  · obtain rfl : r = 0 := by omega
    exact ref_powers_none n w h
  · obtain rfl : n = r := by omega
    exact ref_powers_some r w (by omega) (by omega)
end Go.Proofs.YtdifilhfmbpalaaDoor
