/- The contract of satur.Powers at this translation: a new slice that holds the exponents of the powers of two. -/
import Derived.Test.YtjojgpccmedhpaaDoorSat
import Derived.Test.YtjojgpccmedhpaaDoorPowNums
import Derived.Lib.Hide
namespace Go.Proofs.YtjojgpccmedhpaaDoor
open Go.RowKit
set_option linter.unusedVariables false
set_option linter.unusedSimpArgs false
theorem info_int : (Tryd.prog.info? 3).map (fun i => (i.zero, i.size, i.bytes)) = some (some (.int .i64 0), 1, 8) := by kernel_rfl
/-- A slice of ints of the call's own, which holds L. -/
def Made (B : Nat) (L : List Nat) (v : Value) (w : World) : Prop := w.ownsRow B 3 1 v L.length (L.map fun n : Nat => Value.int .i64 (n : Int))
theorem made_step {B : Nat} {L : List Nat} {k : Nat} {v : Value} {w : World} (h : w.ownsRow B 3 1 v (L.length + 1) ((L.map fun n : Nat => Value.int .i64 (n : Int)) ++ [.int .i64 k])) : Made B (L ++ [k]) v w := by
  unfold Made
  simpa using h
theorem gt_pos {s : Nat} (h : 0 < s) : bits .and .u64 (s : Int) ((s : Int) - 1) = ((s &&& (s - 1) : Nat) : Int) ∨ 18446744073709551616 ≤ s := by
  by_cases hs : s < 18446744073709551616
  · left
    have e : (s : Int) - 1 = ((s - 1 : Nat) : Int) := by omega
    rw [e]
    exact bits_and_u64_nat s (s - 1) hs (by omega)
  · right; omega
set_option maxHeartbeats 1000000 in
theorem powers_any (n : Int) (r : Nat) (w : World) (hr : nat0 n = r) (h0 : -9223372036854775808 ≤ n) (h1 : n ≤ 9223372036854775807) (hg : 2 < w.heap.size) (hT : TabAt 2 Lib.deBruijn64tab w) :
    Calls Tryd.prog 17 #[.int .i64 n] w fun e w' => ∃ v, e = .returned v ∧ Made w.heap.size (pows r 63) v w' ∧ Below w.heap.size w w' := by
  have hb := nat0_bd n h1
  have hr63 : r < 9223372036854775808 := by omega
  have hw : ∀ w, Calls Tryd.prog 22 #[.int .i64 n] w fun e w' => e = .returned (.int .u64 (r : Int)) ∧ w = w' := fun w => hr ▸ word_any n w h0 h1
  obtain ⟨i0, hi, hz0, hz1, hz2⟩ := info_parts info_int
  clear hr hb
  go_enter Tryd.func17, Tryd.ntmps17
  go_wp2_with (go_at_call 22; refine (hw _).mono ?_; rintro e w' ⟨rfl, rfl⟩)
  go_loopw [3, 4] (fun v s wr => ∃ c : Nat, c ≤ 63 ∧ s = .int .u64 (above r c : Nat) ∧ Made w.heap.size (pows r c) v wr ∧ Below w.heap.size w wr)
    (fun _ s _ => (intOf s).toNat)
  case atStart => exact ⟨0, by omega, by rw [above_zero], World.ownsRow_nil _ _ _ _, Below.refl _ _⟩
  case round =>
    obtain ⟨c, hc, rfl, hown, hnx⟩ := hrel
    have hle := above_le r c
    by_cases hpos : 0 < above r c
    · obtain ⟨k, hk, hk63, hstr, hlt, hpw⟩ := lowest_step hr63 hc hpos
      have hT' : above r c ≠ 0 → TabAt 2 Lib.deBruijn64tab wr := fun _ j hj => (hnx.cell (by exact hg)).trans (hT j hj)
      have htz : ∀ ww, (∀ j, j < Lib.deBruijn64tab.length → ww.cell? ⟨2, j, none⟩ = some (.int .u8 (Lib.deBruijn64tab.getD j 0))) → Calls Tryd.prog 27 #[.int .u64 (above r c : Nat)] ww fun e w' => e = .returned (.int .i64 k) ∧ ww = w' :=
        fun ww h => ((Tryd.tz64 (above r c) (by omega) ww (fun _ => h)).mono fun _ _ h => ⟨by rw [h.1, hk], h.2.symm⟩)
      have htz := htz wr (hT' (by omega))
      have hand : bits .and .u64 ((above r c : Nat) : Int) (((above r c : Nat) : Int) - 1) = ((above r (k + 1) : Nat) : Int) := by
        rcases gt_pos hpos with h | h
        · rw [h, hstr]
        · omega
      generalize ha : above r c = a at *
      generalize hb : above r (k + 1) = b at *
      have hpl := pows_le r c
      have hsz := hnx.size
      have H1 := Lib.hid hpw
      have H2 := Lib.hid ha
      have H3 := Lib.hid hb
      have H4 := Lib.hid hstr
      clear hpw ha hb hstr hT' hk hw hT
      go_wp2_with (first
        | (go_at_call 27; refine htz.mono ?_; rintro e w' ⟨rfl, rfl⟩)
        | (at_builtin; refine wpList_append_own _ rfl _ _ 31 rfl w.heap.size 3 i0 (.int .i64 0) 1 8 Tryd.underlying31 hi hz0 hz1 hz2 rfl (by decide) _ _ _ rfl (World.ownsRow.alloc hown _) ⟨wr.heap.size, 0, none⟩ 1 1 [.int .i64 (k : Int)] rfl rfl ?c1 ?c2 ?c3 ?c4 ?c5 ?_))
      case c1 =>
        intro j u hj
        match j, hj with
        | 0, hj => simp at hj; subst hj; simp [Addr.add]
      case c2 => intro u hu; simp at hu; subst hu; rfl
      case c3 => unfold maxLen; omega
      case c4 => omega
      case c5 => simp; omega
      · intro v' w1 hown' hgrow _
        have hstep := made_step hown'
        have hbel : Below w.heap.size w w1 := (hnx.alloc hsz _).grown hgrow (by simp; omega) (fun g hg' => (hown.lt g hg').1)
        have H5 := Lib.hid hstep
        have H6 := Lib.hid hbel
        clear hstep hbel hown' hgrow hown hnx htz
        go_wp2
        go_roundw
        case rel => exact ⟨k + 1, by omega, by rw [H3.out], by rw [H1.out]; exact H5.out, H6.out⟩
        case measure => simp [intOf]; omega
    · have hz : above r c = 0 := by omega
      have hd := pows_done hr63 hc hz
      rw [hz]
      have H1 := Lib.hid hd
      have H2 := Lib.hid hown
      have H3 := Lib.hid hnx
      clear hd hown hnx hz hpos hT hw
      go_wp2
      go_ret
      exact ⟨_, rfl, H1.out ▸ H2.out, H3.out⟩
end Go.Proofs.YtjojgpccmedhpaaDoor
