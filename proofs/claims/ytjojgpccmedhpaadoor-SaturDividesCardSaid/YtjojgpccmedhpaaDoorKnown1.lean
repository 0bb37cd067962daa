/- The contract of sketchstorelaw1.known at this translation: the chapter's examples come out as the chapter says, where the table of the library is laid. -/
import Derived.Test.YtjojgpccmedhpaaDoorPow
import Derived.Test.YtjojgpccmedhpaaDoorDiv
namespace Go.Proofs.YtjojgpccmedhpaaDoor
open Go.RowKit
set_option linter.unusedVariables false
set_option linter.unusedSimpArgs false
theorem lz_any (x : Int) (w : World) (h0 : 0 ≤ x) (h1 : x ≤ 18446744073709551615) :
    Calls Tryd.prog 19 #[.int .u64 x] w fun e w' => e = .returned (.int .i64 (64 - (Lib.bitLen x.toNat : Int))) ∧ w = w' := by
  have c := fun w => Tryd.lz64 x w h0 h1
  generalize (64 - (Lib.bitLen x.toNat : Int)) = n at *
  go_enter Tryd.func19, Tryd.ntmps19
  go_wp2_with (go_at_call 28; refine (c _).mono ?_; rintro e w' ⟨rfl, rfl⟩)
  go_ret
  exact ⟨rfl, rfl⟩
/-- What is owned, looked at. -/
theorem made_at {B : Nat} {L : List Nat} {v : Value} {w : World} (h : Made B L v w) (hL : L ≠ []) :
    ∃ g cap, v = .slice (some ⟨g, 0, none⟩) L.length cap ∧ B ≤ g ∧ g < w.heap.size ∧ ∀ j n : Nat, L[j]? = some n → w.cell? ⟨g, j, none⟩ = some (.int .i64 (n : Int)) := by
  have hc : ∀ {g : Nat}, v.ownBlock = some g → _ := fun {g} hg => World.ownsRow.cells h (g := g) hg
  have hl := World.ownsRow.lt h
  rcases h.2 with ⟨_, hn⟩ | ⟨g, cap, cur, rfl, hb, _⟩
  · cases L <;> simp at hn hL
  · refine ⟨g, cap, rfl, hb, (hl g rfl).2, fun j n hj => ?_⟩
    have := hc (g := g) rfl j (.int .i64 (n : Int)) (by simp [hj])
    have hadd : (⟨g, 0, none⟩ : Addr).add j = ⟨g, j, none⟩ := by unfold Addr.add; split <;> simp_all
    rw [hadd] at this
    exact this
theorem k_add (w : World) : Calls Tryd.prog 8 #[.int .i64 3, .int .i64 4, .int .i64 5] w fun e w' => e = .returned (.tuple #[.int .i64 5, .bool true]) ∧ w = w' := by
  have h := add_any 3 4 5 w (by omega) (by omega) (by omega) (by omega) (by omega) (by omega)
  rw [show satN (nat0 3 + nat0 4) (nat0 5) = 5 by decide, show satF (nat0 3 + nat0 4) (nat0 5) = true by decide] at h
  exact h
theorem k_mul (w : World) : Calls Tryd.prog 10 #[.int .i64 1099511627776, .int .i64 1099511627776, .int .i64 1125899906842624] w fun e w' => e = .returned (.tuple #[.int .i64 1125899906842624, .bool true]) ∧ w = w' := by
  have h := mul_any 1099511627776 1099511627776 1125899906842624 w (by omega) (by omega) (by omega) (by omega) (by omega) (by omega)
  rw [show satN (nat0 1099511627776 * nat0 1099511627776) (nat0 1125899906842624) = 1125899906842624 by decide, show satF (nat0 1099511627776 * nat0 1099511627776) (nat0 1125899906842624) = true by decide] at h
  exact h
theorem k_lz (w : World) : Calls Tryd.prog 19 #[.int .u64 1] w fun e w' => e = .returned (.int .i64 63) ∧ w = w' := by
  have h := lz_any 1 w (by omega) (by omega)
  rw [show (64 - (Lib.bitLen (1 : Int).toNat : Int)) = 63 by decide] at h
  exact h
theorem k_div (w : World) : Calls Tryd.prog 13 #[.int .i64 1152921504606846976, .int .i64 6, .int .i64 4] w fun e w' => e = .returned (.tuple #[.int .i64 1729382256910270464, .int .i64 0]) ∧ ∃ n, w' = w.drewN n :=
  muldiv_low 1152921504606846976 6 4 6917529027641081856 1729382256910270464 w (by omega) (by omega) (by omega) (by omega) (by omega) (by omega) (by omega) (by omega) (by omega) (by omega) (by omega)
theorem k_pow (w : World) (hg : 2 < w.heap.size) (hT : TabAt 2 Lib.deBruijn64tab w) :
    Calls Tryd.prog 17 #[.int .i64 6] w fun e w' => ∃ g cap, e = .returned (.slice (some ⟨g, 0, none⟩) 2 cap) ∧ w'.cell? ⟨g, 0, none⟩ = some (.int .i64 1) ∧ w'.cell? ⟨g, 1, none⟩ = some (.int .i64 2) ∧ Below w.heap.size w w' := by
  refine (powers_any 6 6 w (by decide) (by omega) (by omega) hg hT).mono ?_
  rintro e w' ⟨v, rfl, hm, hb⟩
  rw [show pows 6 63 = [1, 2] by decide] at hm
  obtain ⟨g, cap, rfl, _, _, hc⟩ := made_at hm (by simp)
  exact ⟨g, cap, rfl, hc 0 1 rfl, hc 1 2 rfl, hb⟩
set_option maxHeartbeats 1000000 in
theorem known_any (w : World) (hg : 2 < w.heap.size) (hT : TabAt 2 Lib.deBruijn64tab w) :
    Calls Tryd.prog 12 #[] w fun e w' => e = .returned (.bool true) ∧ Below w.heap.size w w' := by
  have hp : ∀ n, Calls Tryd.prog 17 #[.int .i64 6] (w.drewN n) fun e w' => ∃ g cap, e = .returned (.slice (some ⟨g, 0, none⟩) 2 cap) ∧ w'.cell? ⟨g, 0, none⟩ = some (.int .i64 1) ∧ w'.cell? ⟨g, 1, none⟩ = some (.int .i64 2) ∧ Below w.heap.size w w' := fun n =>
    (k_pow (w.drewN n) (by simpa using hg) (fun j hj => by simpa using hT j hj)).mono fun e w' ⟨g, cap, h1, h2, h3, h4⟩ => ⟨g, cap, h1, h2, h3, by have := h4; exact ⟨this.os, this.tape, this.output, this.size, this.block⟩⟩
  clear hT hg
  go_enter Tryd.func12, Tryd.ntmps12
  go_wp2_with (first
    | (go_at_call 8; refine (k_add _).mono ?_; rintro e w' ⟨rfl, rfl⟩)
    | (go_at_call 10; refine (k_mul _).mono ?_; rintro e w' ⟨rfl, rfl⟩)
    | (go_at_call 13; refine (k_div _).mono ?_; rintro e w' ⟨rfl, n, rfl⟩)
    | (go_at_call 17; refine (hp _).mono ?_; rintro e w' ⟨g, cap, rfl, c0, c1, hb⟩)
    | (go_at_call 19; refine (k_lz _).mono ?_; rintro e w' ⟨rfl, rfl⟩))
  go_ret
  exact ⟨rfl, by assumption⟩
end Go.Proofs.YtjojgpccmedhpaaDoor
