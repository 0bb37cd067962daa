/- PQV, TabQ: in one text. -/
import Derived.Test.YtjibbnknliamkaaGreatDoorPk26
import Derived.Test.YtjibbnknliamkaaGreatDoorPk00
import Derived.BigRegion
import Derived.Lib.LaidTab
import Derived.OpenShut
import Derived.Below
namespace Go.Proofs.YtjibbnknliamkaaGreatDoor
open Go.RowKit
set_option linter.unusedVariables false
set_option linter.unusedSimpArgs false
set_option maxRecDepth 100000 in
set_option maxHeartbeats 1000000 in
theorem pqv_1 (k : Int) (K : ByteArray) (n u d : Int) (w : World) (hK : K.size ≤ maxLen) (hk : k = 1) :
    Calls Tryz.prog 11 #[.agg #[.int .i64 k, .string K, .int .i64 n, .int .i64 u, .int .i64 d]] w fun e w' => e = .returned (.int .i64 (qrE k K n u d)) ∧ Below w.heap.size w w' := by
  subst hk
  go_enter Tryz.func11, Tryz.ntmps11
  go_wp2
  all_goals
    go_ret
    refine ⟨ret_int (by first | (simp [qrE, qrU, qrS, *] <;> omega) | (rename_i hlast; simp at hlast; simp [qrE, qrU, qrS, *] <;> omega)), ?_⟩
    repeat (first | exact Below.refl _ _ | refine bset ?_ _ _ _ (by simp <;> omega) | refine bal ?_ _ | refine below_drew ?_)
set_option maxRecDepth 100000 in
set_option maxHeartbeats 1000000 in
theorem pqv_3 (k : Int) (K : ByteArray) (n u d : Int) (w : World) (hK : K.size ≤ maxLen) (hk : k = 3) :
    Calls Tryz.prog 11 #[.agg #[.int .i64 k, .string K, .int .i64 n, .int .i64 u, .int .i64 d]] w fun e w' => e = .returned (.int .i64 (qrE k K n u d)) ∧ Below w.heap.size w w' := by
  subst hk
  go_enter Tryz.func11, Tryz.ntmps11
  go_wp2
  all_goals
    go_ret
    refine ⟨ret_int (by first | (simp [qrE, qrU, qrS, *] <;> omega) | (rename_i hlast; simp at hlast; simp [qrE, qrU, qrS, *] <;> omega)), ?_⟩
    repeat (first | exact Below.refl _ _ | refine bset ?_ _ _ _ (by simp <;> omega) | refine bal ?_ _ | refine below_drew ?_)
set_option maxRecDepth 100000 in
set_option maxHeartbeats 1000000 in
theorem pqv_4 (k : Int) (K : ByteArray) (n u d : Int) (w : World) (hK : K.size ≤ maxLen) (hk : k = 4) :
    Calls Tryz.prog 11 #[.agg #[.int .i64 k, .string K, .int .i64 n, .int .i64 u, .int .i64 d]] w fun e w' => e = .returned (.int .i64 (qrE k K n u d)) ∧ Below w.heap.size w w' := by
  subst hk
  go_enter Tryz.func11, Tryz.ntmps11
  go_wp2
  all_goals
    go_ret
    refine ⟨ret_int (by first | (simp [qrE, qrU, qrS, *] <;> omega) | (rename_i hlast; simp at hlast; simp [qrE, qrU, qrS, *] <;> omega)), ?_⟩
    repeat (first | exact Below.refl _ _ | refine bset ?_ _ _ _ (by simp <;> omega) | refine bal ?_ _ | refine below_drew ?_)
set_option maxRecDepth 100000 in
set_option maxHeartbeats 1000000 in
theorem pqv_2t (k : Int) (K : ByteArray) (n u d : Int) (w : World) (hK : K.size ≤ maxLen) (hk : k = 2) (hq : keyB (byt K) = true) :
    Calls Tryz.prog 11 #[.agg #[.int .i64 k, .string K, .int .i64 n, .int .i64 u, .int .i64 d]] w fun e w' => e = .returned (.int .i64 (qrE k K n u d)) ∧ Below w.heap.size w w' := by
  subst hk
  have HI := Lib.hid (fun w => isKey_any K w hK)
  rw [hq] at HI
  go_enter Tryz.func11, Tryz.ntmps11
  go_wp2_with (go_at_call 26; (with_reducible refine (HI.out _).mono ?_); rintro e w' ⟨rfl, rfl⟩)
  all_goals
    go_ret
    refine ⟨ret_int (by first | (simp [qrE, qrU, qrS, *] <;> omega) | (rename_i hlast; simp at hlast; simp [qrE, qrU, qrS, *] <;> omega)), ?_⟩
    repeat (first | exact Below.refl _ _ | refine bset ?_ _ _ _ (by simp <;> omega) | refine bal ?_ _ | refine below_drew ?_)
set_option maxRecDepth 100000 in
set_option maxHeartbeats 1000000 in
theorem pqv_2f (k : Int) (K : ByteArray) (n u d : Int) (w : World) (hK : K.size ≤ maxLen) (hk : k = 2) (hq : keyB (byt K) = false) :
    Calls Tryz.prog 11 #[.agg #[.int .i64 k, .string K, .int .i64 n, .int .i64 u, .int .i64 d]] w fun e w' => e = .returned (.int .i64 (qrE k K n u d)) ∧ Below w.heap.size w w' := by
  subst hk
  have HI := Lib.hid (fun w => isKey_any K w hK)
  rw [hq] at HI
  go_enter Tryz.func11, Tryz.ntmps11
  go_wp2_with (go_at_call 26; (with_reducible refine (HI.out _).mono ?_); rintro e w' ⟨rfl, rfl⟩)
  all_goals
    go_ret
    refine ⟨ret_int (by first | (simp [qrE, qrU, qrS, *] <;> omega) | (rename_i hlast; simp at hlast; simp [qrE, qrU, qrS, *] <;> omega)), ?_⟩
    repeat (first | exact Below.refl _ _ | refine bset ?_ _ _ _ (by simp <;> omega) | refine bal ?_ _ | refine below_drew ?_)
set_option maxRecDepth 100000 in
set_option maxHeartbeats 1000000 in
theorem pqv_6t (k : Int) (K : ByteArray) (n u d : Int) (w : World) (hK : K.size ≤ maxLen) (hk : k = 6) (hq : keyB (byt K) = true) :
    Calls Tryz.prog 11 #[.agg #[.int .i64 k, .string K, .int .i64 n, .int .i64 u, .int .i64 d]] w fun e w' => e = .returned (.int .i64 (qrE k K n u d)) ∧ Below w.heap.size w w' := by
  subst hk
  have HI := Lib.hid (fun w => isKey_any K w hK)
  rw [hq] at HI
  go_enter Tryz.func11, Tryz.ntmps11
  go_wp2_with (go_at_call 26; (with_reducible refine (HI.out _).mono ?_); rintro e w' ⟨rfl, rfl⟩)
  all_goals
    go_ret
    refine ⟨ret_int (by first | (simp [qrE, qrU, qrS, *] <;> omega) | (rename_i hlast; simp at hlast; simp [qrE, qrU, qrS, *] <;> omega)), ?_⟩
    repeat (first | exact Below.refl _ _ | refine bset ?_ _ _ _ (by simp <;> omega) | refine bal ?_ _ | refine below_drew ?_)
set_option maxRecDepth 100000 in
set_option maxHeartbeats 1000000 in
theorem pqv_6f (k : Int) (K : ByteArray) (n u d : Int) (w : World) (hK : K.size ≤ maxLen) (hk : k = 6) (hq : keyB (byt K) = false) :
    Calls Tryz.prog 11 #[.agg #[.int .i64 k, .string K, .int .i64 n, .int .i64 u, .int .i64 d]] w fun e w' => e = .returned (.int .i64 (qrE k K n u d)) ∧ Below w.heap.size w w' := by
  subst hk
  have HI := Lib.hid (fun w => isKey_any K w hK)
  rw [hq] at HI
  go_enter Tryz.func11, Tryz.ntmps11
  go_wp2_with (go_at_call 26; (with_reducible refine (HI.out _).mono ?_); rintro e w' ⟨rfl, rfl⟩)
  all_goals
    go_ret
    refine ⟨ret_int (by first | (simp [qrE, qrU, qrS, *] <;> omega) | (rename_i hlast; simp at hlast; simp [qrE, qrU, qrS, *] <;> omega)), ?_⟩
    repeat (first | exact Below.refl _ _ | refine bset ?_ _ _ _ (by simp <;> omega) | refine bal ?_ _ | refine below_drew ?_)
set_option maxRecDepth 100000 in
set_option maxHeartbeats 1000000 in
theorem pqv_5 (k : Int) (K : ByteArray) (n u d : Int) (w : World) (hK : K.size ≤ maxLen) (hk : k = 5) :
    Calls Tryz.prog 11 #[.agg #[.int .i64 k, .string K, .int .i64 n, .int .i64 u, .int .i64 d]] w fun e w' => e = .returned (.int .i64 (qrE k K n u d)) ∧ Below w.heap.size w w' := by
  subst hk
  go_enter Tryz.func11, Tryz.ntmps11
  go_wp2
  all_goals
    go_ret
    refine ⟨ret_int (by first | (simp [qrE, qrU, qrS, *] <;> omega) | (rename_i hlast; simp at hlast; simp [qrE, qrU, qrS, *] <;> omega)), ?_⟩
    repeat (first | exact Below.refl _ _ | refine bset ?_ _ _ _ (by simp <;> omega) | refine bal ?_ _ | refine below_drew ?_)
set_option maxRecDepth 100000 in
set_option maxHeartbeats 1000000 in
theorem pqv_7 (k : Int) (K : ByteArray) (n u d : Int) (w : World) (hK : K.size ≤ maxLen) (hk : k = 7) (hg : ¬ (d < 1 ∨ 1000000 < d ∨ u < 0 ∨ d < u)) :
    Calls Tryz.prog 11 #[.agg #[.int .i64 k, .string K, .int .i64 n, .int .i64 u, .int .i64 d]] w fun e w' => e = .returned (.int .i64 (qrE k K n u d)) ∧ Below w.heap.size w w' := by
  subst hk
  have hg1 : ¬ d < 1 := by omega
  have hg2 : ¬ 1000000 < d := by omega
  have hg3 : ¬ u < 0 := by omega
  have hg4 : ¬ d < u := by omega
  go_enter Tryz.func11, Tryz.ntmps11
  go_wp2
  go_region
  all_goals
    go_wp2
  all_goals
    go_ret
    refine ⟨ret_int (by first | (simp [qrE, qrU, qrS, *] <;> omega) | (rename_i hlast; simp at hlast; simp [qrE, qrU, qrS, *] <;> omega)), ?_⟩
    repeat (first | exact Below.refl _ _ | refine bset ?_ _ _ _ (by simp <;> omega) | refine bal ?_ _ | refine below_drew ?_)
set_option maxRecDepth 100000 in
set_option maxHeartbeats 1000000 in
theorem pqv_7b (k : Int) (K : ByteArray) (n u d : Int) (w : World) (hK : K.size ≤ maxLen) (hk : k = 7) (hg : d < 1 ∨ 1000000 < d ∨ u < 0 ∨ d < u) :
    Calls Tryz.prog 11 #[.agg #[.int .i64 k, .string K, .int .i64 n, .int .i64 u, .int .i64 d]] w fun e w' => e = .returned (.int .i64 (qrE k K n u d)) ∧ Below w.heap.size w w' := by
  subst hk
  have hE : qrE 7 K n u d = 5 := by simp [qrE, qrU, hg]
  rw [hE]
  by_cases hg1 : d < 1
  · go_enter Tryz.func11, Tryz.ntmps11
    go_wp2
    all_goals
      go_ret
      refine ⟨rfl, ?_⟩
      repeat (first | exact Below.refl _ _ | refine bset ?_ _ _ _ (by simp <;> omega) | refine bal ?_ _ | refine below_drew ?_)
  · by_cases hg2 : 1000000 < d
    · go_enter Tryz.func11, Tryz.ntmps11
      go_wp2
      all_goals
        go_ret
        refine ⟨rfl, ?_⟩
        repeat (first | exact Below.refl _ _ | refine bset ?_ _ _ _ (by simp <;> omega) | refine bal ?_ _ | refine below_drew ?_)
    · by_cases hg3 : u < 0
      · go_enter Tryz.func11, Tryz.ntmps11
        go_wp2
        all_goals
          go_ret
          refine ⟨rfl, ?_⟩
          repeat (first | exact Below.refl _ _ | refine bset ?_ _ _ _ (by simp <;> omega) | refine bal ?_ _ | refine below_drew ?_)
      · have hg4 : d < u := by omega
        go_enter Tryz.func11, Tryz.ntmps11
        go_wp2
        all_goals
          go_ret
          refine ⟨rfl, ?_⟩
          repeat (first | exact Below.refl _ _ | refine bset ?_ _ _ _ (by simp <;> omega) | refine bal ?_ _ | refine below_drew ?_)
set_option maxRecDepth 100000 in
set_option maxHeartbeats 1000000 in
theorem pqv_0 (k : Int) (K : ByteArray) (n u d : Int) (w : World) (hK : K.size ≤ maxLen) (hk : k < 1 ∨ 7 < k) :
    Calls Tryz.prog 11 #[.agg #[.int .i64 k, .string K, .int .i64 n, .int .i64 u, .int .i64 d]] w fun e w' => e = .returned (.int .i64 (qrE k K n u d)) ∧ Below w.heap.size w w' := by
  have hE : qrE k K n u d = 8 := by simp [qrE, hk]
  rw [hE]
  have h1 : ¬ k = 1 := by omega
  have h2 : ¬ k = 2 := by omega
  have h3 : ¬ k = 3 := by omega
  have h4 : ¬ k = 4 := by omega
  have h5 : ¬ k = 5 := by omega
  have h6 : ¬ k = 6 := by omega
  have h7 : ¬ k = 7 := by omega
  go_enter Tryz.func11, Tryz.ntmps11
  go_wp2
  all_goals
    go_ret
    refine ⟨rfl, ?_⟩
    repeat (first | exact Below.refl _ _ | refine bset ?_ _ _ _ (by simp <;> omega) | refine bal ?_ _ | refine below_drew ?_)
theorem pqv_any (k : Int) (K : ByteArray) (n u d : Int) (w : World) (hK : K.size ≤ maxLen) :
    Calls Tryz.prog 11 #[.agg #[.int .i64 k, .string K, .int .i64 n, .int .i64 u, .int .i64 d]] w fun e w' => e = .returned (.int .i64 (qrE k K n u d)) ∧ Below w.heap.size w w' := by
  rcases qr_cases k with h | h | h | h | h | h | h | h
  · exact pqv_1 k K n u d w hK h
  · cases hq : keyB (byt K)
    · exact pqv_2f k K n u d w hK h hq
    · exact pqv_2t k K n u d w hK h hq
  · exact pqv_3 k K n u d w hK h
  · exact pqv_4 k K n u d w hK h
  · exact pqv_5 k K n u d w hK h
  · cases hq : keyB (byt K)
    · exact pqv_6f k K n u d w hK h hq
    · exact pqv_6t k K n u d w hK h hq
  · by_cases hg : d < 1 ∨ 1000000 < d ∨ u < 0 ∨ d < u
    · exact pqv_7b k K n u d w hK h hg
    · exact pqv_7 k K n u d w hK h hg
  · exact pqv_0 k K n u d w hK h
end Go.Proofs.YtjibbnknliamkaaGreatDoor
namespace Go.Proofs.YtjibbnknliamkaaGreatDoor
open Go Go.RowKit
set_option linter.unusedVariables false
set_option linter.unusedSimpArgs false
/-- The table as a row lists it. -/
def gridData {H : Type} (L : List (List Bool)) : DataW H := .agg (L.map fun r => .agg (r.map fun p => .lit (.bool p)))
theorem grid_cell {H : Type} {enc : TypeId × Value → H} {P : Program} {w : World} {base : Nat} {sp : Nat → Bool} {held : Bool} {fuel : Nat} {t e b : TypeId} {n m : Nat} {cs : List Value} {L : List (List Bool)} {p : List MemPlace}
    (ht : P.underlying t = some (.array n e)) (he : P.underlying e = some (.array m b)) (hb : P.underlying b = some .bool) (cb : P.cellsOf b = 1) (ce : P.cellsOf e = m)
    (h : DataW.trod enc P w base sp held fuel t cs = some (gridData L, p)) (i j : Nat) (r : List Bool) (q : Bool) (hr : L[i]? = some r) (hq : r[j]? = some q) : cs[i * m + j]? = some (.bool q) := by
  obtain ⟨xs, k1, rfl, hx, hl, hlen, hf⟩ := DataW.trod_array ht h
  have hx1 : xs.map (·.1) = L.map fun r => (DataW.agg (r.map fun p => .lit (.bool p)) : DataW H) := by
    have := congrArg Prod.fst hx
    simpa [gridData] using this.symm
  have hiL : i < L.length := (List.getElem?_eq_some_iff.1 hr).1
  have hi : i < n := by
    have := congrArg List.length hx1
    simp at this
    omega
  obtain ⟨y, hy⟩ : ∃ y, xs[i]? = some y := ⟨xs[i]'(by omega), List.getElem?_eq_getElem (by omega)⟩
  have hy1 : y.1 = DataW.agg (r.map fun p => .lit (.bool p)) := by
    have := congrArg (·[i]?) hx1
    simpa [hy, hr] using this
  have hfi := hf i hi
  rw [hy, ce] at hfi
  obtain ⟨ys, k2, rfl, hz, hl2, hlen2, hg⟩ := DataW.trod_array he hfi
  have hz1 : ys.map (·.1) = r.map fun p => (DataW.lit (.bool p) : DataW H) := by
    have := congrArg Prod.fst hz
    rw [hy1] at this
    simpa using this.symm
  have hjr : j < r.length := (List.getElem?_eq_some_iff.1 hq).1
  have hj : j < m := by
    have := congrArg List.length hz1
    simp at this
    omega
  obtain ⟨z, hz2⟩ : ∃ z, ys[j]? = some z := ⟨ys[j]'(by omega), List.getElem?_eq_getElem (by omega)⟩
  have hz3 : z.1 = DataW.lit (.bool q) := by
    have := congrArg (·[j]?) hz1
    simpa [hz2, hq] using this
  have hgj := hg j hj
  rw [hz2, cb] at hgj
  obtain ⟨c, h1, h2⟩ := DataW.trod_bool hb hgj
  have hc : c = q := by
    have : z.1 = DataW.lit (.bool c) := by rw [h2]
    rw [hz3] at this
    simpa using this.symm
  subst hc
  have h3 := congrArg (·[0]?) h1
  simpa [List.getElem?_take, List.getElem?_drop, hj, Nat.mul_one] using h3
/-- The variable's cells. -/
theorem grid_at {P : Program} {W : World} {name : String} {L : List (List Bool)} {rest : List (String × DataW Unit)} {g : Nat} {t e b : TypeId} {n m : Nat}
    (hg : P.globalNamed name = some g) (hty : (P.globals[g]?).map (·.type) = some t) (ht : P.underlying t = some (.array n e)) (he : P.underlying e = some (.array m b)) (hb : P.underlying b = some .bool) (cb : P.cellsOf b = 1) (ce : P.cellsOf e = m)
    (h : laidMet P ((name, gridData L) :: rest) W) (i j : Nat) (r : List Bool) (q : Bool) (hr : L[i]? = some r) (hq : r[j]? = some q) : W.cell? ⟨g, i * m + j, none⟩ = some (.bool q) := by
  obtain ⟨ps, ⟨g', t', cs, fuel, p, u, hg', ht', hvar, hd, _, _⟩, _⟩ := h
  obtain rfl := Option.some.inj (hg.symm.trans hg')
  obtain rfl := Option.some.inj (hty.symm.trans ht')
  have hc := grid_cell ht he hb cb ce hd i j r q hr hq
  rw [World.var?_cell hg hvar (i * m + j)]
  simpa using hc
/-- Which kinds of sketches answer which kinds of queries. -/
def supL : List (List Bool) := [[false, false, false, false, false, false, false], [false, true, false, false, true, true, true], [false, false, true, false, true, true, false], [false, false, true, true, false, false, false], [false, false, false, true, false, false, false], [false, false, false, false, true, true, false], [false, false, false, false, false, false, true], [false, false, false, false, false, false, true]]
/-- The table as it was laid. -/
def SupT (W : World) : Prop := 0 < W.heap.size ∧ ∀ (i j : Nat) (r : List Bool) (q : Bool), supL[i]? = some r → r[j]? = some q → W.cell? ⟨0, i * 7 + j, none⟩ = some (.bool q)
theorem SupT.go {w w' : World} (h : SupT w) (hb : Below w.heap.size w w') : SupT w' := by
  refine ⟨Nat.lt_of_lt_of_le h.1 hb.size, fun i j r q hr hq => ?_⟩
  rw [← h.2 i j r q hr hq]
  exact hb.cell h.1
end Go.Proofs.YtjibbnknliamkaaGreatDoor
