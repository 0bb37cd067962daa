/- The contract of the reference's FindTop. -/
import Derived.Test.YtcmekpdgikploaaFind9
namespace Go.Proofs.Ytcmekpdgikploaa
open Go.RowKit
set_option linter.unusedVariables false
set_option linter.unusedSimpArgs false
set_option maxRecDepth 100000 in
set_option maxHeartbeats 1000000 in
theorem rfindT_any (S T : Int) (L : List Ent) (s : Bool) (k : ByteArray) (a : Option Addr) (n cap : Nat) (w : World) (S0 : -9223372036854775808 ≤ S) (S1 : S ≤ 9223372036854775807) (T0 : -9223372036854775808 ≤ T) (T1 : T ≤ 9223372036854775807) (hk : k.size ≤ maxLen) (hr : RdE L (.slice a n cap) w) (hn : L.length ≤ 549755813888) :
    Calls Try.prog 50 #[.agg #[.int .i64 S, .int .i64 T, .slice a n cap, .bool s], .string k] w fun e w' =>
      e = .returned (.tuple #[.agg #[.string (findX S T L k).k, .int .i64 (findX S T L k).c, .int .i64 (findX S T L k).e], .bool (findB S T L k), .int .i64 (findE S T L k)]) ∧ Below w.heap.size w w' := by
  obtain ⟨a', cap', he⟩ := hr.shape
  simp only [Value.slice.injEq] at he
  obtain ⟨rfl, rfl, rfl⟩ := he
  have HR := Lib.hid hr
  have HV := Lib.hid (fun (w' : World) (hb : Below w.heap.size w w') => rval_any S T L s a L.length cap w' S0 S1 T0 T1 (hr.below hb) hn)
  have HK := Lib.hid hk
  have hit := fun w => risKey_any k w hk
  have M0 := Lib.hid (FnS.new w S T (.slice a L.length cap) s)
  clear hr hk
  unfold findX findB
  by_cases hE : valE S T L = 0
  · have hval := valE_ok hE
    rw [hE] at HV
    cases hF : keyB (byt k) with
    | true =>
      have e0 : findE S T L k = 0 := by unfold findE; rw [hE, if_neg (by decide), hF, if_neg (by simp)]
      rw [e0, if_neg (by decide), if_neg (by decide)]
      rw [hF] at hit
      have HLE := Lib.hid (fun (w' : World) (hb : Below w.heap.size w w') => rleast_any S T L s a L.length cap w' (HR.out.below hb) hn)
      have HFI := Lib.hid (fun (w' : World) (hb : Below w.heap.size w w') => rfind_any L k a L.length cap w' (HR.out.below hb) hn)
      clear hE hF e0
      unfold entAt
      cases hH : hasK L k with
      | true =>
        rw [if_pos rfl]
        obtain ⟨j, hj, hfj⟩ : ∃ j : Nat, j < L.length ∧ findI L k = (j : Int) := by
          rcases findI_cases L k with ⟨_, j, h1, h2, _⟩ | ⟨h, _⟩
          · exact ⟨j, h1, h2⟩
          · rw [hH] at h; cases h
        rw [hfj] at HFI ⊢
        rw [Int.toNat_natCast]
        have hj2 : (j : Int) < (L.length : Int) := by omega
        obtain ⟨X, hX⟩ : ∃ X, X = L.getD j Ent.z := ⟨_, rfl⟩
        rw [← hX]
        have HX := Lib.hid hX
        clear hX hH hfj
        go_enter Try.func50, Try.ntmps50
        go_wp2_with (first
          | (go_at_call 18; refine (HV.out _ M0.out.2.1).mono ?_; rintro e w2 ⟨rfl, hb2⟩; have M2 := Lib.hid (M0.out.go hb2); obtain ⟨⟨p0, p1, p2, p3⟩, ⟨o0, o1, o2⟩, g0, g1, g2⟩ := M2.out.cells; clear hb2)
          | (go_at_call 45; refine (hit _).mono ?_; rintro e w' ⟨rfl, rfl⟩)
          | (go_at_call 38; fail))
        obtain ⟨-, a1, cap1, he1, -, -, hcc⟩ := HR.out.below M2.out.2.1
        simp only [Value.slice.injEq, true_and] at he1
        obtain ⟨rfl, rfl⟩ := he1
        obtain ⟨b6, off6, rfl, hb6, hcell6⟩ := hcc (by omega)
        obtain ⟨c0, c1, c2⟩ := hcell6 j hj
        rw [← HX.out] at c0 c1 c2
        clear hcell6 hcc
        refine (HFI.out _ M2.out.2.1).mono ?_
        rintro e w' ⟨rfl, rfl⟩
        go_wp2
        refine bodyPost_ret (v := .tuple #[.agg #[.string X.k, .int .i64 X.c, .int .i64 X.e], .bool true, .int .i64 0]) (by simp (config := { maxDischargeDepth := 8 }) [results, Try.results50, go_sem, *]) rfl ⟨rfl, ?_⟩
        have l3 : w.heap.size ≤ w.heap.size + 1 := by omega
        exact bset (bset (bset M2.out.2.1 _ _ _ l3) _ _ _ l3) _ _ _ l3
      | false =>
        rw [if_neg (by simp)]
        have hfi : findI L k = -1 := by
          rcases findI_cases L k with ⟨h, _⟩ | ⟨_, h⟩
          · rw [hH] at h; cases h
          · exact h
        rw [hfi] at HFI
        generalize leastI S L = l at *
        clear hH hfi
        go_enter Try.func50, Try.ntmps50
        go_wp2_with (first
          | (go_at_call 18; refine (HV.out _ M0.out.2.1).mono ?_; rintro e w2 ⟨rfl, hb2⟩; have M2 := Lib.hid (M0.out.go hb2); obtain ⟨⟨p0, p1, p2, p3⟩, ⟨o0, o1, o2⟩, g0, g1, g2⟩ := M2.out.cells; clear hb2)
          | (go_at_call 45; refine (hit _).mono ?_; rintro e w' ⟨rfl, rfl⟩)
          | (go_at_call 38; refine (HFI.out _ M2.out.2.1).mono ?_; rintro e w' ⟨rfl, rfl⟩))
        go_region_law (go_simp; first
          | (go_at_call 39; refine (HLE.out _ (by first | exact M3.out.2.1 | exact (M3.out.go (Below.refl _ _).drew).2.1)).mono ?_; rintro e w4 ⟨rfl, hb⟩; have M4 := Lib.hid (M3.out.go hb); obtain ⟨⟨s0, s1, s2, s3⟩, ⟨t0, t1, t2⟩, h0, h1, h2⟩ := M4.out.cells; clear hb)
          | (go_at_call 39; refine (HLE.out _ (by first | exact M2.out.2.1 | exact (M2.out.go (Below.refl _ _).drew).2.1)).mono ?_; rintro e w3 ⟨rfl, hb⟩; have M3 := Lib.hid (M2.out.go (by first | exact hb | exact (Below.refl _ _).drew.trans hb)); obtain ⟨⟨q0, q1, q2, q3⟩, ⟨r0, r1, r2⟩, k0, k1, k2⟩ := M3.out.cells; clear hb))
        all_goals
          go_wp2
          refine bodyPost_ret (v := .tuple #[.agg #[.string k, .int .i64 l, .int .i64 l], .bool false, .int .i64 0]) (by simp (config := { maxDischargeDepth := 8 }) [results, Try.results50, go_sem, *]) rfl ⟨rfl, ?_⟩
          have l3 : w.heap.size ≤ w.heap.size + 1 := by omega
          first
            | exact bset (bset (bset M4.out.2.1 _ _ _ l3) _ _ _ l3) _ _ _ l3
            | exact (bset (bset (bset M4.out.2.1 _ _ _ l3) _ _ _ l3) _ _ _ l3).drew
    | false =>
      have e0 : findE S T L k = 7 := by unfold findE; rw [hE, if_neg (by decide), hF, if_pos rfl]
      rw [e0, if_pos (by decide), if_pos (by decide)]
      rw [hF] at hit
      clear hval hE hF e0
      go_enter Try.func50, Try.ntmps50
      go_wp2_with (first
        | (go_at_call 18; refine (HV.out _ M0.out.2.1).mono ?_; rintro e w2 ⟨rfl, hb2⟩; have M2 := Lib.hid (M0.out.go hb2); obtain ⟨⟨p0, p1, p2, p3⟩, ⟨o0, o1, o2⟩, g0, g1, g2⟩ := M2.out.cells; clear hb2)
        | (go_at_call 45; refine (hit _).mono ?_; rintro e w' ⟨rfl, rfl⟩))
      refine bodyPost_ret (v := .tuple #[.agg #[.string ⟨#[]⟩, .int .i64 0, .int .i64 0], .bool false, .int .i64 7]) (by simp [results, Try.results50, go_sem, *]) rfl ⟨rfl, ?_⟩
      have l3 : w.heap.size ≤ w.heap.size + 1 := by omega
      exact bset (bset (bset M2.out.2.1 _ _ _ l3) _ _ _ l3) _ _ _ l3
  · have e0 : findE S T L k = valE S T L := by unfold findE; rw [if_pos hE]
    rw [e0, if_pos hE, if_pos hE]
    have hE2 : (valE S T L != 0) = true := by simpa using hE
    clear hE e0
    go_enter Try.func50, Try.ntmps50
    go_wp2_with (first
      | (go_at_call 18; refine (HV.out _ M0.out.2.1).mono ?_; rintro e w2 ⟨rfl, hb2⟩; have M2 := Lib.hid (M0.out.go hb2); obtain ⟨⟨p0, p1, p2, p3⟩, ⟨o0, o1, o2⟩, g0, g1, g2⟩ := M2.out.cells; clear hb2))
    refine bodyPost_ret (v := .tuple #[.agg #[.string ⟨#[]⟩, .int .i64 0, .int .i64 0], .bool false, .int .i64 (valE S T L)]) (by simp [results, Try.results50, go_sem, *]) rfl ⟨rfl, ?_⟩
    have l3 : w.heap.size ≤ w.heap.size + 1 := by omega
    exact bset (bset (bset M2.out.2.1 _ _ _ l3) _ _ _ l3) _ _ _ l3
end Go.Proofs.Ytcmekpdgikploaa
