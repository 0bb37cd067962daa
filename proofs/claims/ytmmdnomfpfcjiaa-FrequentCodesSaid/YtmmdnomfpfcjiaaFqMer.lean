/- The contract of frequent.Merge. -/
import Derived.Test.YtmmdnomfpfcjiaaFqIns
namespace Go.Proofs.Ytmmdnomfpfcjiaa
open Go.RowKit
set_option linter.unusedVariables false
set_option linter.unusedSimpArgs false
set_option maxRecDepth 100000 in
set_option maxHeartbeats 4000000 in
theorem pmerQ_any (a b : FQ) (va vb : Value) (w : World) (ha : RdQ a va w) (hb : RdQ b vb w) (hn : a.L.length + b.L.length ≤ 12) (wa : WfQ a) (wb : WfQ b) :
    Calls Try.prog 19 #[va, vb] w fun e w' =>
      ∃ u, e = .returned (.tuple #[u, .int .i64 (merQE a b)]) ∧ OwnQ w.heap.size (merQ a b) u w' ∧ Below w.heap.size w w' := by
  obtain ⟨S, T, K, L, s⟩ := a
  obtain ⟨S', T', K', M, s'⟩ := b
  obtain ⟨aA, nA, cA, rfl, hr⟩ := ha
  obtain ⟨aB, nB, cB, rfl, hr2⟩ := hb
  dsimp only at hr hr2 hn
  have HR := Lib.hid hr
  have HR2 := Lib.hid hr2
  have HV := Lib.hid (fun (w' : World) (hb : Below w.heap.size w w') => pvalQ_any S T K L s aA nA cA w' (hr.below hb) (by omega))
  have HV2 := Lib.hid (fun (w' : World) (hb : Below w.heap.size w w') => pvalQ_any S' T' K' M s' aB nB cB w' (hr2.below hb) (by omega))
  have M0 := Lib.hid (SM.new w ⟨S, T, K, L, s⟩ (.slice aA nA cA) ⟨S', T', K', M, s'⟩ (.slice aB nB cB))
  have B0 := Lib.hid M0.out.2.2.2
  clear hr hr2
  unfold merQ merQE
  dsimp only
  by_cases hE : valQ S T K L = 0
  · rw [hE] at HV
    rw [if_neg (by simpa using hE)]
    by_cases hF : valQ S' T' K' M = 0
    · rw [hF] at HV2
      rw [if_neg (by simpa using hF)]
      by_cases hS : S = S'
      · subst hS
        rw [if_neg (by simp), if_neg (by decide)]
        have hval := valQ_ok hE
        have hval2 := valQ_ok hF
        have HSQ := Lib.hid (fun (va vb : Value) (w' : World) (ha : RdQ ⟨S, T, K, L, s⟩ va w') (hb : RdQ ⟨S, T', K', M, s'⟩ vb w') => sumQ_any ⟨S, T, K, L, s⟩ ⟨S, T', K', M, s'⟩ va vb w' ha hb hn wa wb (by have := hval.s0; show 0 ≤ S; omega) hval.nn hval2.nn)
        generalize sumQ ⟨S, T, K, L, s⟩ ⟨S, T', K', M, s'⟩ = R at *
        clear hval hval2 hE hF hn wa wb
        go_enter Try.func19, Try.ntmps19
        go_wp2_with (first
          | (go_at_call 16; (with_reducible refine (HV.out _ B0.out).mono ?_); rintro e w2 ⟨rfl, hb2⟩; have M2 := Lib.hid (M0.out.go hb2); have B2 := Lib.hid M2.out.2.2.2; obtain ⟨⟨p0, p1, p2, p3, p4⟩, ⟨q0, q1, q2, q3, q4⟩, -, -⟩ := M2.out.cells; clear hb2)
          | (go_at_call 16; (with_reducible refine (HV2.out _ B2.out).mono ?_); rintro e w3 ⟨rfl, hb3⟩; have M3 := Lib.hid (M2.out.go hb3); clear p0 p1 p2 p3 p4 q0 q1 q2 q3 q4; obtain ⟨⟨p0, p1, p2, p3, p4⟩, ⟨q0, q1, q2, q3, q4⟩, -, -⟩ := M3.out.cells; have RA := Lib.hid (show RdQ ⟨S, T, K, L, s⟩ (.agg #[.int .i64 S, .int .i64 T, .int .i64 K, .slice aA nA cA, .bool s]) w3 from ⟨_, _, _, rfl, HR.out.below M3.out.2.2.2⟩); have RB := Lib.hid (show RdQ ⟨S, T', K', M, s'⟩ (.agg #[.int .i64 S, .int .i64 T', .int .i64 K', .slice aB nB cB, .bool s']) w3 from ⟨_, _, _, rfl, HR2.out.below M3.out.2.2.2⟩); clear hb3)
          | (go_at_call 28; refine (HSQ.out _ _ _ RA.out RB.out).mono ?_; rintro e w8 ⟨u8, rfl, ⟨a8, n8, c8, rfl, ho8⟩, hb8⟩; have O8 := Lib.hid ho8; have M8 := Lib.hid (M3.out.go hb8); clear p0 p1 p2 p3 p4 q0 q1 q2 q3 q4 ho8 hb8; obtain ⟨-, -, ⟨o0, o1, o2, o3, o4⟩, y0, y1, y2, y3, y4⟩ := M8.out.cells))
        refine bodyPost_ret (v := .tuple #[.agg #[.int .i64 R.S, .int .i64 R.T, .int .i64 R.K, .slice a8 n8 c8, .bool R.s], .int .i64 0]) (by simp [results, Try.results19, go_sem, *]) rfl ⟨_, rfl, ⟨a8, n8, c8, rfl, ?_⟩, ?_⟩
        · have l4 : w.heap.size + 1 + 1 < w3.heap.size := M3.out.lt
          refine OwnE.mono (B := w3.heap.size) ?_ (by omega)
          exact ((((O8.out.keep l4 _ _).keep l4 _ _).keep l4 _ _).keep l4 _ _).keep l4 _ _
        · have l3 : w.heap.size ≤ w.heap.size + 1 + 1 := by omega
          exact bsetB (bsetB (bsetB (bsetB (bsetB M8.out.2.2.2 _ _ _ l3) _ _ _ l3) _ _ _ l3) _ _ _ l3) _ _ _ l3
      · have hS2 : (S != S') = true := by simpa using hS
        rw [if_pos hS, if_pos (by decide)]
        clear hS
        go_enter Try.func19, Try.ntmps19
        go_wp2_with (first
          | (go_at_call 16; (with_reducible refine (HV.out _ B0.out).mono ?_); rintro e w2 ⟨rfl, hb2⟩; have M2 := Lib.hid (M0.out.go hb2); have B2 := Lib.hid M2.out.2.2.2; obtain ⟨⟨p0, p1, p2, p3, p4⟩, ⟨q0, q1, q2, q3, q4⟩, ⟨o0, o1, o2, o3, o4⟩, y0, y1, y2, y3, y4⟩ := M2.out.cells; clear hb2)
          | (go_at_call 16; (with_reducible refine (HV2.out _ B2.out).mono ?_); rintro e w3 ⟨rfl, hb3⟩; have M3 := Lib.hid (M2.out.go hb3); clear p0 p1 p2 p3 p4 q0 q1 q2 q3 q4 o0 o1 o2 o3 o4 y0 y1 y2 y3 y4; obtain ⟨⟨p0, p1, p2, p3, p4⟩, ⟨q0, q1, q2, q3, q4⟩, ⟨o0, o1, o2, o3, o4⟩, y0, y1, y2, y3, y4⟩ := M3.out.cells; clear hb3))
        refine bodyPost_ret (v := .tuple #[.agg #[.int .i64 0, .int .i64 0, .int .i64 0, .slice none 0 0, .bool false], .int .i64 10]) (by simp [results, Try.results19, go_sem, *]) rfl ⟨_, rfl, ⟨none, 0, 0, rfl, OwnE.empty _ _⟩, ?_⟩
        have l3 : w.heap.size ≤ w.heap.size + 1 + 1 := by omega
        exact bsetB (bsetB (bsetB (bsetB (bsetB M3.out.2.2.2 _ _ _ l3) _ _ _ l3) _ _ _ l3) _ _ _ l3) _ _ _ l3
    · have hF2 : (valQ S' T' K' M != 0) = true := by simpa using hF
      rw [if_pos hF, if_pos hF]
      clear hF
      go_enter Try.func19, Try.ntmps19
      go_wp2_with (first
        | (go_at_call 16; (with_reducible refine (HV.out _ B0.out).mono ?_); rintro e w2 ⟨rfl, hb2⟩; have M2 := Lib.hid (M0.out.go hb2); have B2 := Lib.hid M2.out.2.2.2; obtain ⟨⟨p0, p1, p2, p3, p4⟩, ⟨q0, q1, q2, q3, q4⟩, ⟨o0, o1, o2, o3, o4⟩, y0, y1, y2, y3, y4⟩ := M2.out.cells; clear hb2)
        | (go_at_call 16; (with_reducible refine (HV2.out _ B2.out).mono ?_); rintro e w3 ⟨rfl, hb3⟩; have M3 := Lib.hid (M2.out.go hb3); clear p0 p1 p2 p3 p4 q0 q1 q2 q3 q4 o0 o1 o2 o3 o4 y0 y1 y2 y3 y4; obtain ⟨⟨p0, p1, p2, p3, p4⟩, ⟨q0, q1, q2, q3, q4⟩, ⟨o0, o1, o2, o3, o4⟩, y0, y1, y2, y3, y4⟩ := M3.out.cells; clear hb3))
      refine bodyPost_ret (v := .tuple #[.agg #[.int .i64 0, .int .i64 0, .int .i64 0, .slice none 0 0, .bool false], .int .i64 (valQ S' T' K' M)]) (by simp [results, Try.results19, go_sem, *]) rfl ⟨_, rfl, ⟨none, 0, 0, rfl, OwnE.empty _ _⟩, ?_⟩
      have l3 : w.heap.size ≤ w.heap.size + 1 + 1 := by omega
      exact bsetB (bsetB (bsetB (bsetB (bsetB M3.out.2.2.2 _ _ _ l3) _ _ _ l3) _ _ _ l3) _ _ _ l3) _ _ _ l3
  · have hE2 : (valQ S T K L != 0) = true := by simpa using hE
    rw [if_pos hE, if_pos hE]
    clear hE
    go_enter Try.func19, Try.ntmps19
    go_wp2_with (go_at_call 16; (with_reducible refine (HV.out _ B0.out).mono ?_); rintro e w2 ⟨rfl, hb2⟩; have M2 := Lib.hid (M0.out.go hb2); have B2 := Lib.hid M2.out.2.2.2; obtain ⟨⟨p0, p1, p2, p3, p4⟩, ⟨q0, q1, q2, q3, q4⟩, ⟨o0, o1, o2, o3, o4⟩, y0, y1, y2, y3, y4⟩ := M2.out.cells; clear hb2)
    refine bodyPost_ret (v := .tuple #[.agg #[.int .i64 0, .int .i64 0, .int .i64 0, .slice none 0 0, .bool false], .int .i64 (valQ S T K L)]) (by simp [results, Try.results19, go_sem, *]) rfl ⟨_, rfl, ⟨none, 0, 0, rfl, OwnE.empty _ _⟩, ?_⟩
    have l3 : w.heap.size ≤ w.heap.size + 1 + 1 := by omega
    exact bsetB (bsetB (bsetB (bsetB (bsetB M2.out.2.2.2 _ _ _ l3) _ _ _ l3) _ _ _ l3) _ _ _ l3) _ _ _ l3
end Go.Proofs.Ytmmdnomfpfcjiaa
