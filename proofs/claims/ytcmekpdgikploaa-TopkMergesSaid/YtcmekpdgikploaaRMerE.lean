/- The contract of the reference's MergeTop at any two summaries. -/
import Derived.Test.YtcmekpdgikploaaRMer9
namespace Go.Proofs.Ytcmekpdgikploaa
open Go.RowKit
set_option linter.unusedVariables false
set_option linter.unusedSimpArgs false
set_option maxRecDepth 100000 in
set_option maxHeartbeats 1000000 in
theorem rmer_any (S T : Int) (L : List Ent) (s : Bool) (S2 T2 : Int) (M : List Ent) (s2 : Bool) (a : Option Addr) (n cap : Nat) (a2 : Option Addr) (n2 cap2 : Nat) (w : World) (S0 : -9223372036854775808 ≤ S) (S1 : S ≤ 9223372036854775807) (T0 : -9223372036854775808 ≤ T) (T1 : T ≤ 9223372036854775807) (V0 : -9223372036854775808 ≤ S2) (V1 : S2 ≤ 9223372036854775807) (U0 : -9223372036854775808 ≤ T2) (U1 : T2 ≤ 9223372036854775807) (hr : RdE L (.slice a n cap) w) (hr2 : RdE M (.slice a2 n2 cap2) w) (hn : L.length + M.length ≤ 12) :
    Calls Try.prog 21 #[.agg #[.int .i64 S, .int .i64 T, .slice a n cap, .bool s], .agg #[.int .i64 S2, .int .i64 T2, .slice a2 n2 cap2, .bool s2]] w fun e w' =>
      ∃ v, e = .returned (.tuple #[v, .int .i64 (merE ⟨S, T, L, s⟩ ⟨S2, T2, M, s2⟩)]) ∧ OwnT w.heap.size (merTop ⟨S, T, L, s⟩ ⟨S2, T2, M, s2⟩) v w' ∧ Below w.heap.size w w' := by
  have hV := fun (w' : World) (hb : Below w.heap.size w w') => rval_any S T L s a n cap w' S0 S1 T0 T1 (hr.below hb) (by omega)
  have hV2 := fun (w' : World) (hb : Below w.heap.size w w') => rval_any S2 T2 M s2 a2 n2 cap2 w' V0 V1 U0 U1 (hr2.below hb) (by omega)
  have M0 := Lib.hid (MB.new w S T (.slice a n cap) s S2 T2 (.slice a2 n2 cap2) s2)
  unfold merTop merE
  dsimp only
  by_cases hE : valE S T L = 0
  · rw [hE] at hV
    rw [if_neg (by simpa using hE)]
    by_cases hF : valE S2 T2 M = 0
    · rw [hF] at hV2
      rw [if_neg (by simpa using hF)]
      by_cases hS : S = S2
      · subst hS
        rw [if_neg (by simp), if_neg (by decide)]
        exact rmerG_any S T L s T2 M s2 a n cap a2 n2 cap2 w S0 S1 T0 T1 U0 U1 hr hr2 hE hF
      · have hS2 : (S != S2) = true := by simpa using hS
        rw [if_pos (by simpa using hS), if_pos (by decide)]
        have HV := Lib.hid hV
        have HV2 := Lib.hid hV2
        clear hr hr2 hV hV2 hE hF hS
        go_enter Try.func21, Try.ntmps21
        go_wp2_with (first
          | (go_at_call 18; (with_reducible refine (HV.out _ M0.out.bel).mono ?_); rintro e w2 ⟨rfl, hb2⟩; have M2 := Lib.hid (M0.out.go hb2); obtain ⟨⟨p0, p1, p2, p3⟩, ⟨q0, q1, q2, q3⟩, -, -⟩ := M2.out.cells; clear hb2)
          | (go_at_call 18; (with_reducible refine (HV2.out _ M2.out.bel).mono ?_); rintro e w3 ⟨rfl, hb3⟩; have M3 := Lib.hid (M2.out.go hb3); clear p0 p1 p2 p3 q0 q1 q2 q3; obtain ⟨⟨p0, p1, p2, p3⟩, ⟨q0, q1, q2, q3⟩, ⟨o0, o1, o2, o3⟩, g0, g1, g2, g3⟩ := M3.out.cells; clear hb3))
        refine bodyPost_ret (v := .tuple #[.agg #[.int .i64 0, .int .i64 0, .slice none 0 0, .bool false], .int .i64 10]) (by simp [results, Try.results21, go_sem, *]) rfl ⟨_, rfl, ⟨none, 0, 0, rfl, OwnE.empty _ _⟩, ?_⟩
        have l3 : w.heap.size ≤ w.heap.size + 1 + 1 := by omega
        exact bsetB (bsetB (bsetB (bsetB M3.out.bel _ _ _ l3) _ _ _ l3) _ _ _ l3) _ _ _ l3
    · have hF2 : (valE S2 T2 M != 0) = true := by simpa using hF
      rw [if_pos hF, if_pos hF]
      have HV := Lib.hid hV
      have HV2 := Lib.hid hV2
      clear hr hr2 hV hV2 hE hF
      go_enter Try.func21, Try.ntmps21
      go_wp2_with (first
        | (go_at_call 18; (with_reducible refine (HV.out _ M0.out.bel).mono ?_); rintro e w2 ⟨rfl, hb2⟩; have M2 := Lib.hid (M0.out.go hb2); obtain ⟨⟨p0, p1, p2, p3⟩, ⟨q0, q1, q2, q3⟩, -, -⟩ := M2.out.cells; clear hb2)
        | (go_at_call 18; (with_reducible refine (HV2.out _ M2.out.bel).mono ?_); rintro e w3 ⟨rfl, hb3⟩; have M3 := Lib.hid (M2.out.go hb3); clear p0 p1 p2 p3 q0 q1 q2 q3; obtain ⟨⟨p0, p1, p2, p3⟩, ⟨q0, q1, q2, q3⟩, ⟨o0, o1, o2, o3⟩, g0, g1, g2, g3⟩ := M3.out.cells; clear hb3))
      refine bodyPost_ret (v := .tuple #[.agg #[.int .i64 0, .int .i64 0, .slice none 0 0, .bool false], .int .i64 (valE S2 T2 M)]) (by simp [results, Try.results21, go_sem, *]) rfl ⟨_, rfl, ⟨none, 0, 0, rfl, OwnE.empty _ _⟩, ?_⟩
      have l3 : w.heap.size ≤ w.heap.size + 1 + 1 := by omega
      exact bsetB (bsetB (bsetB (bsetB M3.out.bel _ _ _ l3) _ _ _ l3) _ _ _ l3) _ _ _ l3
  · have hE2 : (valE S T L != 0) = true := by simpa using hE
    rw [if_pos hE, if_pos hE]
    have HV := Lib.hid hV
    clear hr hr2 hV hV2 hE
    go_enter Try.func21, Try.ntmps21
    go_wp2_with (first
      | (go_at_call 18; (with_reducible refine (HV.out _ M0.out.bel).mono ?_); rintro e w2 ⟨rfl, hb2⟩; have M2 := Lib.hid (M0.out.go hb2); obtain ⟨⟨p0, p1, p2, p3⟩, ⟨q0, q1, q2, q3⟩, ⟨o0, o1, o2, o3⟩, g0, g1, g2, g3⟩ := M2.out.cells; clear hb2))
    refine bodyPost_ret (v := .tuple #[.agg #[.int .i64 0, .int .i64 0, .slice none 0 0, .bool false], .int .i64 (valE S T L)]) (by simp [results, Try.results21, go_sem, *]) rfl ⟨_, rfl, ⟨none, 0, 0, rfl, OwnE.empty _ _⟩, ?_⟩
    have l3 : w.heap.size ≤ w.heap.size + 1 + 1 := by omega
    exact bsetB (bsetB (bsetB (bsetB M2.out.bel _ _ _ l3) _ _ _ l3) _ _ _ l3) _ _ _ l3
end Go.Proofs.Ytcmekpdgikploaa
