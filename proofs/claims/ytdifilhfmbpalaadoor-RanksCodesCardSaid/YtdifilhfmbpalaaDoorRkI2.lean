/- The contract of ranks' Merge. -/
import Derived.Test.YtdifilhfmbpalaaDoorRkI
namespace Go.Proofs.YtdifilhfmbpalaaDoor
open Go.RowKit
set_option linter.unusedVariables false
set_option linter.unusedSimpArgs false
/-- What a merge answers. -/
def merR (A B : RK) (Z : List Int) (a : Int) : RK × Int := if valR A.S A.T A.K A.L = 0 then (if valR B.S B.T B.K B.L = 0 then (if A.S = B.S ∧ posR a = true then sumK A B Z a else (RK.none, 0)) else (RK.none, 0)) else (RK.none, 0)
def merRE (A B : RK) (a : Int) : Int := if valR A.S A.T A.K A.L = 0 then (if valR B.S B.T B.K B.L = 0 then (if A.S = B.S ∧ posR a = true then 0 else if A.S = B.S then 5 else 10) else valR B.S B.T B.K B.L) else valR A.S A.T A.K A.L
/-- The three structs of a merge. -/
def MM (W : World) (a : RK) (v : Value) (b : RK) (u : Value) (w : World) : Prop :=
  RsS W.heap.size a.S a.T a.K v a.s w ∧ RsS (W.heap.size + 1) b.S b.T b.K u b.s w ∧ RsS (W.heap.size + 2) 0 0 0 (.slice none 0 0) false w ∧ Below W.heap.size W w
section
variable {W w w' : World} {a b : RK} {v u : Value}
theorem MM.bel (h : MM W a v b u w) : Below W.heap.size W w := h.2.2.2
theorem MM.lt (h : MM W a v b u w) : W.heap.size + 2 < w.heap.size := h.2.2.1.lt
theorem MM.go (h : MM W a v b u w) (hb : Below w.heap.size w w') : MM W a v b u w' := ⟨h.1.go hb, h.2.1.go hb, h.2.2.1.go hb, bgo h.2.2.2 hb⟩
theorem MM.new (W : World) (a : RK) (v : Value) (b : RK) (u : Value) :
    MM W a v b u (((W.alloc (.cells #[.int .i64 a.S, .int .i64 a.T, .int .i64 a.K, v, .bool a.s] 28)).alloc (.cells #[.int .i64 b.S, .int .i64 b.T, .int .i64 b.K, u, .bool b.s] 28)).alloc (.cells #[.int .i64 0, .int .i64 0, .int .i64 0, .slice none 0 0, .bool false] 28)) :=
  ⟨RsS.new1 _ _ _ _ _ _ _ _ _, RsS.new2 _ _ _ _ _ _ _ _ _, RsS.new3 _ _ _ _ _ _ _ _ _, b3 _ _ _⟩
theorem MM.cells (h : MM W a v b u w) :
    (w.cell? ⟨W.heap.size, 0, none⟩ = some (.int .i64 a.S) ∧ w.cell? ⟨W.heap.size, 1, none⟩ = some (.int .i64 a.T) ∧ w.cell? ⟨W.heap.size, 2, none⟩ = some (.int .i64 a.K) ∧ w.cell? ⟨W.heap.size, 3, none⟩ = some v ∧ w.cell? ⟨W.heap.size, 4, none⟩ = some (.bool a.s)) ∧
    (w.cell? ⟨W.heap.size + 1, 0, none⟩ = some (.int .i64 b.S) ∧ w.cell? ⟨W.heap.size + 1, 1, none⟩ = some (.int .i64 b.T) ∧ w.cell? ⟨W.heap.size + 1, 2, none⟩ = some (.int .i64 b.K) ∧ w.cell? ⟨W.heap.size + 1, 3, none⟩ = some u ∧ w.cell? ⟨W.heap.size + 1, 4, none⟩ = some (.bool b.s)) ∧
    (w.cell? ⟨W.heap.size + 2, 0, none⟩ = some (.int .i64 0) ∧ w.cell? ⟨W.heap.size + 2, 1, none⟩ = some (.int .i64 0) ∧ w.cell? ⟨W.heap.size + 2, 2, none⟩ = some (.int .i64 0) ∧ w.cell? ⟨W.heap.size + 2, 3, none⟩ = some (.slice none 0 0) ∧ w.cell? ⟨W.heap.size + 2, 4, none⟩ = some (.bool false)) ∧
    (w.frozen? ⟨W.heap.size + 2, 0, none⟩ = false ∧ w.frozen? ⟨W.heap.size + 2, 1, none⟩ = false ∧ w.frozen? ⟨W.heap.size + 2, 2, none⟩ = false ∧ w.frozen? ⟨W.heap.size + 2, 3, none⟩ = false ∧ w.frozen? ⟨W.heap.size + 2, 4, none⟩ = false) :=
  ⟨h.1.1, h.2.1.1, h.2.2.1.1, h.2.2.1.2⟩
end
set_option maxRecDepth 100000 in
set_option maxHeartbeats 4000000 in
theorem pmerR_any (A B : RK) (va vb vc : Value) (Z : List Int) (a : Int) (w : World) (hA : RdR A va w) (hB : RdR B vb w) (hoA : LOk A.L) (hoB : LOk B.L) (hZ : Rd Z vc w) :
    Calls Tryd.prog 22 #[va, vb, vc, .int .i64 a] w fun e w' =>
      ∃ u, e = .returned (.tuple #[u, .int .i64 (merR A B Z a).2, .int .i64 (merRE A B a)]) ∧ RbR w.heap.size (merR A B Z a).1 u w' ∧ Below w.heap.size w w' := by
  obtain ⟨S, T, K, L, s⟩ := A
  obtain ⟨S', T', K', M, s'⟩ := B
  obtain ⟨aA, nA, cA, rfl, hr⟩ := hA
  obtain ⟨aB, nB, cB, rfl, hr2⟩ := hB
  dsimp only at hr hr2 hoA hoB
  have HR := Lib.hid hr
  have HR2 := Lib.hid hr2
  have HZ := Lib.hid hZ
  have HVA := Lib.hid (fun (w' : World) (hb : Below w.heap.size w w') => pvalR_any S T K L s aA nA cA w' (hr.below hb) hoA)
  have HVB := Lib.hid (fun (w' : World) (hb : Below w.heap.size w w') => pvalR_any S' T' K' M s' aB nB cB w' (hr2.below hb) hoB)
  have hpo := fun w => isPos_any a w
  have M0 := Lib.hid (MM.new w ⟨S, T, K, L, s⟩ (.slice aA nA cA) ⟨S', T', K', M, s'⟩ (.slice aB nB cB))
  clear hr hr2 hZ
  unfold merR merRE
  dsimp only
  by_cases hE : valR S T K L = 0
  · rw [hE] at HVA
    rw [if_pos hE, if_pos hE]
    by_cases hG : valR S' T' K' M = 0
    · rw [hG] at HVB
      rw [if_pos hG, if_pos hG]
      by_cases hF : S = S' ∧ posR a = true
      · have hval := valR_ok hE
        have hvalB := valR_ok hG
        have hpp := posR_iff hF.2
        rw [hF.2] at hpo
        rw [if_pos hF, if_pos hF]
        obtain rfl : S = S' := hF.1
        have HSQ := Lib.hid (fun (va vb : Value) (w' : World) (ha : RdR ⟨S, T, K, L, s⟩ va w') (hb : RdR ⟨S, T', K', M, s'⟩ vb w') (hz : Rd Z vc w') => sum_any ⟨S, T, K, L, s⟩ ⟨S, T', K', M, s'⟩ va vb vc Z a w' ha hb hz hval hvalB hpp.1 hpp.2)
        generalize sumK ⟨S, T, K, L, s⟩ ⟨S, T', K', M, s'⟩ Z a = R at *
        clear hval hvalB hE hF hoA hoB hpp
        go_enter Tryd.func22, Tryd.ntmps22
        go_upto_region 11 with (first
          | (go_at_call 20; (with_reducible refine (HVA.out _ M0.out.bel).mono ?_); rintro e w2 ⟨rfl, hb2⟩; have M2 := Lib.hid (M0.out.go hb2); obtain ⟨⟨p0, p1, p2, p3, p4⟩, ⟨q0, q1, q2, q3, q4⟩, ⟨o0, o1, o2, o3, o4⟩, y0, y1, y2, y3, y4⟩ := M2.out.cells; clear hb2)
          | (go_at_call 20; (with_reducible refine (HVB.out _ M2.out.bel).mono ?_); rintro e w3 ⟨rfl, hb3⟩; have M3 := Lib.hid (M2.out.go hb3); clear p0 p1 p2 p3 p4 q0 q1 q2 q3 q4 o0 o1 o2 o3 o4 y0 y1 y2 y3 y4; obtain ⟨⟨p0, p1, p2, p3, p4⟩, ⟨q0, q1, q2, q3, q4⟩, ⟨o0, o1, o2, o3, o4⟩, y0, y1, y2, y3, y4⟩ := M3.out.cells; clear hb3; have RA : Hid (RdR ⟨S, T, K, L, s⟩ (.agg #[.int .i64 S, .int .i64 T, .int .i64 K, .slice aA nA cA, .bool s]) w3) := Lib.hid ⟨_, _, _, rfl, HR.out.below M3.out.bel⟩; have RB : Hid (RdR ⟨S, T', K', M, s'⟩ (.agg #[.int .i64 S, .int .i64 T', .int .i64 K', .slice aB nB cB, .bool s']) w3) := Lib.hid ⟨_, _, _, rfl, HR2.out.below M3.out.bel⟩; have h3 := M3.out.lt)
          | (go_at_call 34; (with_reducible refine (hpo _).mono ?_); rintro e w4 ⟨rfl, rfl⟩))
        go_upto_region 12 with (go_at_call 35; (with_reducible refine (HSQ.out _ _ _ RA.out RB.out (HZ.out.below M3.out.bel)).mono ?_); rintro e w8 ⟨u8, rfl, ⟨a8, n8, c8, rfl, ho8⟩, hb8⟩; have M8 := Lib.hid (M3.out.go hb8); have O8 := Lib.hid (ho8.mono (B' := w.heap.size + 3) (by omega)); clear p0 p1 p2 p3 p4 q0 q1 q2 q3 q4 o0 o1 o2 o3 o4 y0 y1 y2 y3 y4 ho8 hb8; obtain ⟨⟨p0, p1, p2, p3, p4⟩, ⟨q0, q1, q2, q3, q4⟩, ⟨o0, o1, o2, o3, o4⟩, y0, y1, y2, y3, y4⟩ := M8.out.cells)
        clear p0 p1 p2 p3 p4 q0 q1 q2 q3 q4 o0 o1 o2 o3 o4 y0 y1 y2 y3 y4 HVA HVB hpo HSQ RA RB HR HR2 HZ M0 M2 M3
        have HX := Lib.hid (FiveS.put (R := R.1) M8.out.2.2.1 O8.out M8.out.bel (by omega))
        clear M8 O8
        generalize ((((w8.setCell ⟨w.heap.size + 1 + 1, 0, none⟩ (.int .i64 R.1.S)).setCell ⟨w.heap.size + 1 + 1, 1, none⟩ (.int .i64 R.1.T)).setCell ⟨w.heap.size + 1 + 1, 2, none⟩ (.int .i64 R.1.K)).setCell ⟨w.heap.size + 1 + 1, 3, none⟩ (.slice a8 n8 c8)).setCell ⟨w.heap.size + 1 + 1, 4, none⟩ (.bool R.1.s) = wz at HX ⊢
        obtain ⟨⟨o0, o1, o2, o3, o4⟩, y0, y1, y2, y3, y4⟩ := HX.out.1
        go_wp2
        have HX3 := FiveS.put (R := R.1) HX.out.1 HX.out.2.1 HX.out.2.2 (by omega)
        refine bodyPost_ret (v := .tuple #[.agg #[.int .i64 R.1.S, .int .i64 R.1.T, .int .i64 R.1.K, .slice a8 n8 c8, .bool R.1.s], .int .i64 R.2, .int .i64 0]) (by simp [results, Tryd.results22, go_sem, *]) rfl ⟨_, rfl, ⟨a8, n8, c8, rfl, HX3.2.1.mono (by omega)⟩, HX3.2.2⟩
      · rw [if_neg hF, if_neg hF]
        by_cases hI : S = S'
        · have hP : posR a = false := by
            cases hp : posR a with
            | false => rfl
            | true => exact absurd ⟨hI, hp⟩ hF
          rw [hP] at hpo
          rw [if_pos hI]
          clear hF hP
          obtain rfl : S = S' := hI
          go_enter Tryd.func22, Tryd.ntmps22
          go_wp2_with (first
            | (go_at_call 20; (with_reducible refine (HVA.out _ M0.out.bel).mono ?_); rintro e w2 ⟨rfl, hb2⟩; have M2 := Lib.hid (M0.out.go hb2); obtain ⟨⟨p0, p1, p2, p3, p4⟩, ⟨q0, q1, q2, q3, q4⟩, ⟨o0, o1, o2, o3, o4⟩, y0, y1, y2, y3, y4⟩ := M2.out.cells; clear hb2)
            | (go_at_call 20; (with_reducible refine (HVB.out _ M2.out.bel).mono ?_); rintro e w3 ⟨rfl, hb3⟩; have M3 := Lib.hid (M2.out.go hb3); clear p0 p1 p2 p3 p4 q0 q1 q2 q3 q4 o0 o1 o2 o3 o4 y0 y1 y2 y3 y4; obtain ⟨⟨p0, p1, p2, p3, p4⟩, ⟨q0, q1, q2, q3, q4⟩, ⟨o0, o1, o2, o3, o4⟩, y0, y1, y2, y3, y4⟩ := M3.out.cells; clear hb3)
            | (go_at_call 34; (with_reducible refine (hpo _).mono ?_); rintro e w4 ⟨rfl, rfl⟩))
          refine bodyPost_ret (v := .tuple #[.agg #[.int .i64 0, .int .i64 0, .int .i64 0, .slice none 0 0, .bool false], .int .i64 0, .int .i64 (5)]) (by simp [results, Tryd.results22, go_sem, *]) rfl ⟨_, rfl, ⟨none, 0, 0, rfl, RdB.none_ _ _⟩, ?_⟩
          have l3 : w.heap.size ≤ w.heap.size + 1 + 1 := by omega
          exact bset (bset (bset (bset (bset M3.out.2.2.2 _ _ _ l3) _ _ _ l3) _ _ _ l3) _ _ _ l3) _ _ _ l3
        · rw [if_neg hI]
          clear hF
          go_enter Tryd.func22, Tryd.ntmps22
          go_wp2_with (first
            | (go_at_call 20; (with_reducible refine (HVA.out _ M0.out.bel).mono ?_); rintro e w2 ⟨rfl, hb2⟩; have M2 := Lib.hid (M0.out.go hb2); obtain ⟨⟨p0, p1, p2, p3, p4⟩, ⟨q0, q1, q2, q3, q4⟩, ⟨o0, o1, o2, o3, o4⟩, y0, y1, y2, y3, y4⟩ := M2.out.cells; clear hb2)
            | (go_at_call 20; (with_reducible refine (HVB.out _ M2.out.bel).mono ?_); rintro e w3 ⟨rfl, hb3⟩; have M3 := Lib.hid (M2.out.go hb3); clear p0 p1 p2 p3 p4 q0 q1 q2 q3 q4 o0 o1 o2 o3 o4 y0 y1 y2 y3 y4; obtain ⟨⟨p0, p1, p2, p3, p4⟩, ⟨q0, q1, q2, q3, q4⟩, ⟨o0, o1, o2, o3, o4⟩, y0, y1, y2, y3, y4⟩ := M3.out.cells; clear hb3))
          refine bodyPost_ret (v := .tuple #[.agg #[.int .i64 0, .int .i64 0, .int .i64 0, .slice none 0 0, .bool false], .int .i64 0, .int .i64 (10)]) (by simp [results, Tryd.results22, go_sem, *]) rfl ⟨_, rfl, ⟨none, 0, 0, rfl, RdB.none_ _ _⟩, ?_⟩
          have l3 : w.heap.size ≤ w.heap.size + 1 + 1 := by omega
          exact bset (bset (bset (bset (bset M3.out.2.2.2 _ _ _ l3) _ _ _ l3) _ _ _ l3) _ _ _ l3) _ _ _ l3
    · have hE2 : (valR S' T' K' M != 0) = true := by simpa using hG
      rw [if_neg hG, if_neg hG]
      clear hG
      go_enter Tryd.func22, Tryd.ntmps22
      go_wp2_with (first
        | (go_at_call 20; (with_reducible refine (HVA.out _ M0.out.bel).mono ?_); rintro e w2 ⟨rfl, hb2⟩; have M2 := Lib.hid (M0.out.go hb2); obtain ⟨⟨p0, p1, p2, p3, p4⟩, ⟨q0, q1, q2, q3, q4⟩, ⟨o0, o1, o2, o3, o4⟩, y0, y1, y2, y3, y4⟩ := M2.out.cells; clear hb2)
        | (go_at_call 20; (with_reducible refine (HVB.out _ M2.out.bel).mono ?_); rintro e w3 ⟨rfl, hb3⟩; have M3 := Lib.hid (M2.out.go hb3); clear p0 p1 p2 p3 p4 q0 q1 q2 q3 q4 o0 o1 o2 o3 o4 y0 y1 y2 y3 y4; obtain ⟨⟨p0, p1, p2, p3, p4⟩, ⟨q0, q1, q2, q3, q4⟩, ⟨o0, o1, o2, o3, o4⟩, y0, y1, y2, y3, y4⟩ := M3.out.cells; clear hb3))
      refine bodyPost_ret (v := .tuple #[.agg #[.int .i64 0, .int .i64 0, .int .i64 0, .slice none 0 0, .bool false], .int .i64 0, .int .i64 (valR S' T' K' M)]) (by simp [results, Tryd.results22, go_sem, *]) rfl ⟨_, rfl, ⟨none, 0, 0, rfl, RdB.none_ _ _⟩, ?_⟩
      have l3 : w.heap.size ≤ w.heap.size + 1 + 1 := by omega
      exact bset (bset (bset (bset (bset M3.out.2.2.2 _ _ _ l3) _ _ _ l3) _ _ _ l3) _ _ _ l3) _ _ _ l3
  · have hE2 : (valR S T K L != 0) = true := by simpa using hE
    rw [if_neg hE, if_neg hE]
    clear hE
    go_enter Tryd.func22, Tryd.ntmps22
    go_wp2_with (go_at_call 20; (with_reducible refine (HVA.out _ M0.out.bel).mono ?_); rintro e w2 ⟨rfl, hb2⟩; have M2 := Lib.hid (M0.out.go hb2); obtain ⟨⟨p0, p1, p2, p3, p4⟩, ⟨q0, q1, q2, q3, q4⟩, ⟨o0, o1, o2, o3, o4⟩, y0, y1, y2, y3, y4⟩ := M2.out.cells; clear hb2)
    refine bodyPost_ret (v := .tuple #[.agg #[.int .i64 0, .int .i64 0, .int .i64 0, .slice none 0 0, .bool false], .int .i64 0, .int .i64 (valR S T K L)]) (by simp [results, Tryd.results22, go_sem, *]) rfl ⟨_, rfl, ⟨none, 0, 0, rfl, RdB.none_ _ _⟩, ?_⟩
    have l3 : w.heap.size ≤ w.heap.size + 1 + 1 := by omega
    exact bset (bset (bset (bset (bset M2.out.2.2.2 _ _ _ l3) _ _ _ l3) _ _ _ l3) _ _ _ l3) _ _ _ l3
end Go.Proofs.YtdifilhfmbpalaaDoor
