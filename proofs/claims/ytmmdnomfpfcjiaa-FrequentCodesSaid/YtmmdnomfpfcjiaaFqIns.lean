/- The contracts of frequent's New and Insert; the memory of an insertion. -/
import Derived.Test.YtmmdnomfpfcjiaaFqSum
import Derived.Test.YtmmdnomfpfcjiaaRFVal
namespace Go.Proofs.Ytmmdnomfpfcjiaa
open Go.RowKit
set_option linter.unusedVariables false
set_option linter.unusedSimpArgs false
theorem pnewQ_any (S : Int) (w : World) :
    Calls Try.prog 13 #[.int .i64 S] w fun e w' => ∃ v, e = .returned (.tuple #[v, .int .i64 (newQE S)]) ∧ OwnQ w.heap.size (newQ S) v w' ∧ Below w.heap.size w w' := by
  have hz := fun w => isSz_any S w
  unfold newQE newQ
  by_cases hs : S < 1 ∨ 32 < S
  · rw [show (decide (1 ≤ S) && decide (S ≤ 32)) = false by rw [Bool.and_eq_false_iff]; simp; omega] at hz
    rw [if_pos hs, if_pos hs]
    clear hs
    go_enter Try.func13, Try.ntmps13
    go_wp2_with (go_at_call 34; refine (hz _).mono ?_; rintro e w' ⟨rfl, rfl⟩)
    refine bodyPost_ret (v := .tuple #[.agg #[.int .i64 0, .int .i64 0, .int .i64 0, .slice none 0 0, .bool false], .int .i64 5]) (by simp [results, Try.results13, go_sem, *]) rfl ⟨_, rfl, ⟨none, 0, 0, rfl, OwnE.empty _ _⟩, b1 _⟩
  · rw [show (decide (1 ≤ S) && decide (S ≤ 32)) = true by simp; omega] at hz
    rw [if_neg hs, if_neg hs]
    clear hs
    go_enter Try.func13, Try.ntmps13
    go_wp2_with (go_at_call 34; refine (hz _).mono ?_; rintro e w' ⟨rfl, rfl⟩)
    refine bodyPost_ret (v := .tuple #[.agg #[.int .i64 S, .int .i64 0, .int .i64 0, .slice none 0 0, .bool false], .int .i64 0]) (by simp [results, Try.results13, go_sem, *]) rfl ⟨_, rfl, ⟨none, 0, 0, rfl, OwnE.empty _ _⟩, b1 _⟩
/-- A struct of two cells in memory: an item. -/
def Itm (g : Nat) (k : ByteArray) (x : Int) (w : World) : Prop := w.cell? ⟨g, 0, none⟩ = some (.string k) ∧ w.cell? ⟨g, 1, none⟩ = some (.int .i64 x)
theorem Itm.keep {g : Nat} {k : ByteArray} {x : Int} {w w' : World} (h : Itm g k x w) (hb : w'.heap[g]? = w.heap[g]?) : Itm g k x w' :=
  ⟨(World.cell?_of_block (w := w) (a := ⟨g, 0, none⟩) hb).trans h.1, (World.cell?_of_block (w := w) (a := ⟨g, 1, none⟩) hb).trans h.2⟩
/-- The three structs of an insertion. -/
def MI (W : World) (a : FQ) (v : Value) (k : ByteArray) (x : Int) (w : World) : Prop :=
  FqS W.heap.size a.S a.T a.K v a.s w ∧ Itm (W.heap.size + 1) k x w ∧ FqS (W.heap.size + 2) 0 0 0 (.slice none 0 0) false w ∧ Below W.heap.size W w
section
variable {W w w' : World} {a : FQ} {v : Value} {k : ByteArray} {x : Int}
theorem MI.lt (h : MI W a v k x w) : W.heap.size + 2 < w.heap.size := h.2.2.1.lt
theorem MI.keep (h : MI W a v k x w) (hb : Below (W.heap.size + 3) w w') : MI W a v k x w' :=
  ⟨h.1.keep (hb.block _ (by omega)), h.2.1.keep (hb.block _ (by omega)), h.2.2.1.keep (hb.block _ (by omega)), h.2.2.2.trans (hb.mono (by omega))⟩
theorem MI.go (h : MI W a v k x w) (hb : Below w.heap.size w w') : MI W a v k x w' := h.keep (hb.mono (by have := h.lt; omega))
theorem MI.new (W : World) (a : FQ) (v : Value) (k : ByteArray) (x : Int) :
    MI W a v k x (((W.alloc (.cells #[.int .i64 a.S, .int .i64 a.T, .int .i64 a.K, v, .bool a.s] 25)).alloc (.cells #[.string k, .int .i64 x] 29)).alloc (.cells #[.int .i64 0, .int .i64 0, .int .i64 0, .slice none 0 0, .bool false] 25)) := by
  have h1 := (FqS.new a.S a.T a.K v a.s 25 W).go (b2 (.cells #[.string k, .int .i64 x] 29) (.cells #[.int .i64 0, .int .i64 0, .int .i64 0, .slice none 0 0, .bool false] 25))
  refine ⟨h1, ⟨by go_simp, by go_simp⟩, ?_, b3 _ _ _⟩
  exact ⟨⟨by go_simp, by go_simp, by go_simp, by go_simp, by go_simp⟩, by go_simp, by go_simp, by go_simp, by go_simp, by go_simp⟩
theorem MI.cells (h : MI W a v k x w) :
    (w.cell? ⟨W.heap.size, 0, none⟩ = some (.int .i64 a.S) ∧ w.cell? ⟨W.heap.size, 1, none⟩ = some (.int .i64 a.T) ∧ w.cell? ⟨W.heap.size, 2, none⟩ = some (.int .i64 a.K) ∧ w.cell? ⟨W.heap.size, 3, none⟩ = some v ∧ w.cell? ⟨W.heap.size, 4, none⟩ = some (.bool a.s)) ∧
    (w.cell? ⟨W.heap.size + 1, 0, none⟩ = some (.string k) ∧ w.cell? ⟨W.heap.size + 1, 1, none⟩ = some (.int .i64 x)) ∧
    (w.cell? ⟨W.heap.size + 2, 0, none⟩ = some (.int .i64 0) ∧ w.cell? ⟨W.heap.size + 2, 1, none⟩ = some (.int .i64 0) ∧ w.cell? ⟨W.heap.size + 2, 2, none⟩ = some (.int .i64 0) ∧ w.cell? ⟨W.heap.size + 2, 3, none⟩ = some (.slice none 0 0) ∧ w.cell? ⟨W.heap.size + 2, 4, none⟩ = some (.bool false)) ∧
    (w.frozen? ⟨W.heap.size + 2, 0, none⟩ = false ∧ w.frozen? ⟨W.heap.size + 2, 1, none⟩ = false ∧ w.frozen? ⟨W.heap.size + 2, 2, none⟩ = false ∧ w.frozen? ⟨W.heap.size + 2, 3, none⟩ = false ∧ w.frozen? ⟨W.heap.size + 2, 4, none⟩ = false) :=
  ⟨h.1.1, h.2.1, h.2.2.1.1, h.2.2.1.2⟩
end
theorem ValQ.nn {S T K : Int} {L : List Ent} (h : ValQ S T K L) : NnE L := fun x hx => by
  obtain ⟨i, hi, he⟩ := List.mem_iff_getElem.1 hx
  have h1 := h.ent i hi
  have e : L.getD i Ent.z = x := by simp [List.getD, hi, he]
  rw [e] at h1
  have := (entQ_zero h1).2.1
  omega
theorem itemQ {k : List Int} {x : Int} (h : itemE k x = 0) : keyB k = true ∧ 1 ≤ x ∧ x ≤ 4294967295 := by
  unfold itemE at h
  cases hk : keyB k with
  | false => rw [hk, if_pos rfl] at h; cases h
  | true =>
    rw [hk, if_neg (by simp)] at h
    by_cases hx : x < 1 ∨ 4294967295 < x
    · rw [if_pos hx] at h; cases h
    · exact ⟨rfl, by omega, by omega⟩
set_option maxRecDepth 100000 in
set_option maxHeartbeats 4000000 in
theorem pinsQ_any (t : FQ) (k : ByteArray) (x : Int) (v : Value) (w : World) (hv : RdQ t v w) (wt : WfQ t) (x0 : -9223372036854775808 ≤ x) (x1 : x ≤ 9223372036854775807) (hk : k.size ≤ maxLen) (hn : t.L.length ≤ 11) :
    Calls Try.prog 11 #[v, .agg #[.string k, .int .i64 x]] w fun e w' =>
      ∃ u, e = .returned (.tuple #[u, .int .i64 (insQE t k x)]) ∧ OwnQ w.heap.size (insQ t k x) u w' ∧ Below w.heap.size w w' := by
  obtain ⟨S, T, K, L, s⟩ := t
  obtain ⟨aA, nA, cA, rfl, hr⟩ := hv
  dsimp only at hr hn
  have HR := Lib.hid hr
  have HV := Lib.hid (fun (w' : World) (hb : Below w.heap.size w w') => pvalQ_any S T K L s aA nA cA w' (hr.below hb) (by omega))
  have hit := fun w => item_any k x w hk x0 x1
  have M0 := Lib.hid (MI.new w ⟨S, T, K, L, s⟩ (.slice aA nA cA) k x)
  clear hr
  unfold insQ insQE
  dsimp only
  by_cases hE : valQ S T K L = 0
  · rw [hE] at HV
    rw [if_neg (by simpa using hE)]
    by_cases hF : itemE (byt k) x = 0
    · have hval := valQ_ok hE
      have hi := itemQ hF
      rw [hF] at hit ⊢
      rw [if_neg (by decide)]
      have HSQ := Lib.hid (fun (va vb : Value) (w' : World) (ha : RdQ ⟨S, T, K, L, s⟩ va w') (hb : RdQ (oneQ S k x) vb w') => sumQ_any ⟨S, T, K, L, s⟩ (oneQ S k x) va vb w' ha hb (by show L.length + 1 ≤ 12; omega) wt ⟨wt.1, ⟨x0, x1⟩, by show (-9223372036854775808 : Int) ≤ 0; decide, by show (0 : Int) ≤ 9223372036854775807; decide⟩ (by have := hval.s0; show 0 ≤ S; omega) hval.nn (fun y hy => by rw [show y = ⟨k, x, 0⟩ from List.mem_singleton.1 hy]; show 0 ≤ x; omega))
      have HOK : Hid ((⟨k, x, 0⟩ : Ent).ok) := Lib.hid ⟨hk, ⟨x0, x1⟩, by show (-9223372036854775808 : Int) ≤ 0; decide, by show (0 : Int) ≤ 9223372036854775807; decide⟩
      generalize sumQ ⟨S, T, K, L, s⟩ (oneQ S k x) = R at *
      clear hval hi hE hF hn wt
      go_enter Try.func11, Try.ntmps11
      go_wp2_with (first
        | (go_at_call 16; refine (HV.out _ M0.out.2.2.2).mono ?_; rintro e w2 ⟨rfl, hb2⟩; have M2 := Lib.hid (M0.out.go hb2); obtain ⟨⟨p0, p1, p2, p3, p4⟩, ⟨i0, i1⟩, -, -⟩ := M2.out.cells; clear hb2)
        | (go_at_call 27; refine (hit _).mono ?_; rintro e w3 ⟨rfl, hb3⟩; have MA := Lib.hid ((M2.out.go hb3).go (b1 (.cells #[.string k, .int .i64 x, .int .i64 0] 49))); have M3 := Lib.hid (M2.out.go hb3); clear p0 p1 p2 p3 p4 i0 i1; obtain ⟨⟨p0, p1, p2, p3, p4⟩, ⟨i0, i1⟩, -, -⟩ := M3.out.cells; obtain ⟨⟨pa0, pa1, pa2, pa3, pa4⟩, ⟨ia0, ia1⟩, -, -⟩ := MA.out.cells; have RA := Lib.hid (show RdQ ⟨S, T, K, L, s⟩ (.agg #[.int .i64 S, .int .i64 T, .int .i64 K, .slice aA nA cA, .bool s]) (w3.alloc (.cells #[.string k, .int .i64 x, .int .i64 0] 49)) from ⟨_, _, _, rfl, HR.out.below MA.out.2.2.2⟩); have RB := Lib.hid (show RdQ (oneQ S k x) (.agg #[.int .i64 S, .int .i64 x, .int .i64 0, .slice (some ⟨w3.heap.size, 0, none⟩) 1 1, .bool false]) (w3.alloc (.cells #[.string k, .int .i64 x, .int .i64 0] 49)) from ⟨_, _, _, rfl, (OwnE.one HOK.out w3).rd⟩); clear hb3)
        | (go_at_call 28; refine (HSQ.out _ _ _ RA.out RB.out).mono ?_; rintro e w8 ⟨u8, rfl, ⟨a8, n8, c8, rfl, ho8⟩, hb8⟩; have O8 := Lib.hid ho8; have M8 := Lib.hid (MA.out.go hb8); clear p0 p1 p2 p3 p4 i0 i1 pa0 pa1 pa2 pa3 pa4 ia0 ia1 ho8 hb8; obtain ⟨⟨p0, p1, p2, p3, p4⟩, ⟨i0, i1⟩, ⟨o0, o1, o2, o3, o4⟩, y0, y1, y2, y3, y4⟩ := M8.out.cells))
      refine bodyPost_ret (v := .tuple #[.agg #[.int .i64 R.S, .int .i64 R.T, .int .i64 R.K, .slice a8 n8 c8, .bool R.s], .int .i64 0]) (by simp [results, Try.results11, go_sem, *]) rfl ⟨_, rfl, ⟨a8, n8, c8, rfl, ?_⟩, ?_⟩
      · have l4 : w.heap.size + 1 + 1 < (w3.alloc (.cells #[.string k, .int .i64 x, .int .i64 0] 49)).heap.size := MA.out.lt
        refine OwnE.mono (B := (w3.alloc (.cells #[.string k, .int .i64 x, .int .i64 0] 49)).heap.size) ?_ (by omega)
        exact ((((O8.out.keep l4 _ _).keep l4 _ _).keep l4 _ _).keep l4 _ _).keep l4 _ _
      · have l3 : w.heap.size ≤ w.heap.size + 1 + 1 := by omega
        exact bsetB (bsetB (bsetB (bsetB (bsetB M8.out.2.2.2 _ _ _ l3) _ _ _ l3) _ _ _ l3) _ _ _ l3) _ _ _ l3
    · have hF2 : (itemE (byt k) x != 0) = true := by simpa using hF
      rw [if_pos hF]
      clear hF
      go_enter Try.func11, Try.ntmps11
      go_wp2_with (first
        | (go_at_call 16; refine (HV.out _ M0.out.2.2.2).mono ?_; rintro e w2 ⟨rfl, hb2⟩; have M2 := Lib.hid (M0.out.go hb2); obtain ⟨⟨p0, p1, p2, p3, p4⟩, ⟨i0, i1⟩, ⟨o0, o1, o2, o3, o4⟩, y0, y1, y2, y3, y4⟩ := M2.out.cells; clear hb2)
        | (go_at_call 27; refine (hit _).mono ?_; rintro e w3 ⟨rfl, hb3⟩; have M3 := Lib.hid (M2.out.go hb3); clear p0 p1 p2 p3 p4 i0 i1 o0 o1 o2 o3 o4 y0 y1 y2 y3 y4; obtain ⟨⟨p0, p1, p2, p3, p4⟩, ⟨i0, i1⟩, ⟨o0, o1, o2, o3, o4⟩, y0, y1, y2, y3, y4⟩ := M3.out.cells; clear hb3))
      refine bodyPost_ret (v := .tuple #[.agg #[.int .i64 0, .int .i64 0, .int .i64 0, .slice none 0 0, .bool false], .int .i64 (itemE (byt k) x)]) (by simp [results, Try.results11, go_sem, *]) rfl ⟨_, rfl, ⟨none, 0, 0, rfl, OwnE.empty _ _⟩, ?_⟩
      have l3 : w.heap.size ≤ w.heap.size + 1 + 1 := by omega
      exact bsetB (bsetB (bsetB (bsetB (bsetB M3.out.2.2.2 _ _ _ l3) _ _ _ l3) _ _ _ l3) _ _ _ l3) _ _ _ l3
  · have hE2 : (valQ S T K L != 0) = true := by simpa using hE
    rw [if_pos hE, if_pos hE]
    clear hE
    go_enter Try.func11, Try.ntmps11
    go_wp2_with (go_at_call 16; refine (HV.out _ M0.out.2.2.2).mono ?_; rintro e w2 ⟨rfl, hb2⟩; have M2 := Lib.hid (M0.out.go hb2); obtain ⟨⟨p0, p1, p2, p3, p4⟩, ⟨i0, i1⟩, ⟨o0, o1, o2, o3, o4⟩, y0, y1, y2, y3, y4⟩ := M2.out.cells; clear hb2)
    refine bodyPost_ret (v := .tuple #[.agg #[.int .i64 0, .int .i64 0, .int .i64 0, .slice none 0 0, .bool false], .int .i64 (valQ S T K L)]) (by simp [results, Try.results11, go_sem, *]) rfl ⟨_, rfl, ⟨none, 0, 0, rfl, OwnE.empty _ _⟩, ?_⟩
    have l3 : w.heap.size ≤ w.heap.size + 1 + 1 := by omega
    exact bsetB (bsetB (bsetB (bsetB (bsetB M2.out.2.2.2 _ _ _ l3) _ _ _ l3) _ _ _ l3) _ _ _ l3) _ _ _ l3
end Go.Proofs.Ytmmdnomfpfcjiaa
