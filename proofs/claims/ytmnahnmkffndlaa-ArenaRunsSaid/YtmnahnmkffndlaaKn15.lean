/- The contract of sketchstorelaw15.known; ArenaNew. -/
import Derived.Test.YtmnahnmkffndlaaArA
namespace Go.Proofs.Ytmnahnmkffndlaa
open Go.RowKit Go.Maps
set_option linter.unusedVariables false
set_option linter.unusedSimpArgs false
theorem alloc_to {B g bm : Nat} {c lo : Int} {L L' : List Pg} {w : World} (h : ArAt B g bm c lo L w) (B0 : Nat) (d : List Int) (v : Value) (hv : Own B0 d v w) (hd : d.length ≤ 1024) (hf : (L.length : Int) ≠ c) (hB : B ≤ w.heap.size) {n : Int} (hn : frN 1 L = n) (hL : insP ⟨n, 1, d⟩ L = L') :
    Calls Try.prog 9 #[.pointer (some ⟨g, 0, none⟩), v] w fun e w' => e = .returned (.tuple #[.int .i64 n, .int .i64 0]) ∧ ArAt B g bm c (n + 1) L' w' ∧ Tn g bm w w' := by
  subst hn
  subst hL
  exact alloc_ok h B0 d v hv hd hf hB
theorem bTn {a w w' : World} {g bm : Nat} (h : Below a.heap.size a w) (ht : Tn g bm w w') (h1 : a.heap.size ≤ g) (h2 : a.heap.size ≤ bm) : Below a.heap.size a w' := h.trans (ht.below h1 h2 h.size)
set_option maxRecDepth 100000 in
set_option maxHeartbeats 1000000 in
theorem known15_any (w : World) : Calls Try.prog 20 #[] w fun e w' => e = .returned (.bool true) ∧ Below w.heap.size w w' := by
  have hnew := arNew_any 2 w (by decide) (by decide)
  go_enter Try.func20, Try.ntmps20
  go_wp2_with (first
    | (go_at_call 7; refine hnew.mono ?_; rintro e w1 ⟨rfl, a1, b1', -⟩; have A1 := Lib.hid (a1 w.heap.size); have B1 := Lib.hid b1'; clear a1 b1' hnew)
    | (go_at_call 9; refine (alloc_to (A1.out.below (b1 _)) w1.heap.size [1] _ (Own.one (by decide) w1) (by decide) (by decide) (by have := B1.out.size; simp; omega) (n := 1) rfl rfl).mono ?_; rintro e w2 ⟨rfl, a2, t2⟩; have A2 := Lib.hid a2; have B2 := Lib.hid (bTn (bal B1.out _) t2 (by omega) (by omega)); clear A1 B1 a2 t2)
    | (go_at_call 9; refine (alloc_to (A2.out.below (b1 _)) w2.heap.size [2] _ (Own.one (by decide) w2) (by decide) (by decide) (by have := B2.out.size; simp; omega) (n := 2) rfl rfl).mono ?_; rintro e w3 ⟨rfl, a3, t3⟩; have A3 := Lib.hid a3; have B3 := Lib.hid (bTn (bal B2.out _) t3 (by omega) (by omega)); clear A2 B2 a3 t3)
    | (go_at_call 13; refine (rel_last A3.out 1 ⟨by decide, by decide⟩ (p := ⟨1, 1, [1]⟩) rfl rfl).mono ?_; rintro e w4 ⟨rfl, a4, t4⟩; have A4 := Lib.hid a4; have B4 := Lib.hid (bTn B3.out t4 (by omega) (by omega)); clear A3 B3 a4 t4)
    | (go_at_call 9; refine (alloc_to (A4.out.below (b1 _)) w4.heap.size [3] _ (Own.one (by decide) w4) (by decide) (by decide) (by have := B4.out.size; simp; omega) (n := 1) rfl rfl).mono ?_; rintro e w5 ⟨rfl, a5, t5⟩; have A5 := Lib.hid a5; have B5 := Lib.hid (bTn (bal B4.out _) t5 (by omega) (by omega)); clear A4 B4 a5 t5)
    | (go_at_call 17; refine (live_any A5.out).mono ?_; rintro e w6 ⟨rfl, rfl⟩))
  go_ret
  exact ⟨rfl, B5.out⟩
end Go.Proofs.Ytmnahnmkffndlaa
