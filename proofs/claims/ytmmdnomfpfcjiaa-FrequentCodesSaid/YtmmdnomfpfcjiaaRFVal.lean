/- The contract of the reference's ValidateFrequent. -/
import Derived.Test.YtmmdnomfpfcjiaaPFVal
namespace Go.Proofs.Ytmmdnomfpfcjiaa
open Go.RowKit
set_option linter.unusedVariables false
set_option linter.unusedSimpArgs false
set_option maxRecDepth 100000 in
set_option maxHeartbeats 4000000 in
theorem rvalQ_any (S T K : Int) (L : List Ent) (s : Bool) (a : Option Addr) (n cap : Nat) (w : World) (hr : RdE L (.slice a n cap) w) (hn : L.length ≤ 549755813888) :
    Calls Try.prog 17 #[.agg #[.int .i64 S, .int .i64 T, .int .i64 K, .slice a n cap, .bool s]] w fun e w' => e = .returned (.int .i64 (valQ S T K L)) ∧ Below w.heap.size w w' := by
  obtain ⟨a', cap', he⟩ := hr.shape
  simp only [Value.slice.injEq] at he
  obtain ⟨rfl, rfl, rfl⟩ := he
  have hy := hr.1
  have HR := Lib.hid hr
  clear hr
  unfold valQ
  have hz := fun w => within_any S 1 32 w
  have ht := fun w => within_any T 0 1099511627776 w
  have hk := fun w => within_any K 0 1099511627776 w
  cases hp : parQ S T K with
  | false =>
    rw [if_pos rfl]
    unfold parQ at hp
    generalize (decide (1 ≤ S) && decide (S ≤ 32)) = bs at *
    generalize (decide (0 ≤ T) && decide (T ≤ 1099511627776)) = bt at *
    generalize (decide (0 ≤ K) && decide (K ≤ 1099511627776)) = bk at *
    rcases par3 _ _ _ hp with rfl | ⟨rfl, rfl⟩ | ⟨rfl, rfl, rfl⟩
    all_goals
      clear hp
      go_enter Try.func17, Try.ntmps17
      go_wp2_with (go_at_call 35; first | ((with_reducible refine (hz _).mono ?_); rintro e w' ⟨rfl, rfl⟩) | ((with_reducible refine (ht _).mono ?_); rintro e w' ⟨rfl, rfl⟩) | ((with_reducible refine (hk _).mono ?_); rintro e w' ⟨rfl, rfl⟩))
      go_ret
      exact ⟨rfl, b1 _⟩
  | true =>
    rw [if_neg (by simp)]
    obtain ⟨p1, p2, p3, p4, p5, p6⟩ := (parQ_iff S T K).1 hp
    rw [show (decide (1 ≤ S) && decide (S ≤ 32)) = true by simp; omega] at hz
    rw [show (decide (0 ≤ T) && decide (T ≤ 1099511627776)) = true by simp; omega] at ht
    rw [show (decide (0 ≤ K) && decide (K ≤ 1099511627776)) = true by simp; omega] at hk
    clear hp p1 p3 p4 p5 p6
    by_cases hl : S < L.length
    · rw [if_pos hl]
      go_enter Try.func17, Try.ntmps17
      go_wp2_with (go_at_call 35; first | ((with_reducible refine (hz _).mono ?_); rintro e w' ⟨rfl, rfl⟩) | ((with_reducible refine (ht _).mono ?_); rintro e w' ⟨rfl, rfl⟩) | ((with_reducible refine (hk _).mono ?_); rintro e w' ⟨rfl, rfl⟩))
      go_ret
      exact ⟨rfl, b1 _⟩
    · rw [if_neg hl]
      have d2 : decide (S < (L.length : Int)) = false := decide_eq_false (by omega)
      obtain ⟨V, hV⟩ : ∃ V, V = vgoQ L L.length 0 := ⟨_, rfl⟩
      rw [← hV]
      have HV := Lib.hid hV
      clear hV hl p2
      have HS0 : Hid (RvQ w S T K (.slice a L.length cap) s (w.alloc (.cells #[.int .i64 S, .int .i64 T, .int .i64 K, .slice a L.length cap, .bool s] 25))) := Lib.hid ⟨FqS.new S T K (.slice a L.length cap) s 25 w, b1 _⟩
      go_enter Try.func17, Try.ntmps17
      go_wp2_with (go_at_call 35; first | ((with_reducible refine (hz _).mono ?_); rintro e w' ⟨rfl, rfl⟩) | ((with_reducible refine (ht _).mono ?_); rintro e w' ⟨rfl, rfl⟩) | ((with_reducible refine (hk _).mono ?_); rintro e w' ⟨rfl, rfl⟩))
      clear hz ht hk d2
      go_loopw [3, 4] (fun i _ wr => ∃ j : Nat, j ≤ L.length ∧ i = .int .i64 (j : Int) ∧ Hid (RvQ w S T K (.slice a L.length cap) s wr) ∧ Hid (vgoQ L (L.length - j) j = V)) (fun i _ _ => L.length - (intOf i).toNat)
      case atStart => exact ⟨0, by omega, rfl, HS0, Lib.hid (by rw [Nat.sub_zero]; exact HV.out.symm)⟩
      case round =>
        clear HS0 HV
        obtain ⟨j, hj, rfl, HI, HV⟩ := hrel
        obtain ⟨⟨-, -, -, q2, -⟩, -⟩ := HI.out.1
        by_cases hlt : j < L.length
        · have hlt2 : (j : Int) < (L.length : Int) := by omega
          have hv := HV.out
          rw [show L.length - j = (L.length - (j + 1)) + 1 by omega] at hv
          unfold vgoQ at hv
          obtain ⟨-, a1, cap1, he1, hcl, -, hc1⟩ := HR.out.below HI.out.2
          simp only [Value.slice.injEq, true_and] at he1
          obtain ⟨rfl, rfl⟩ := he1
          obtain ⟨b, off, rfl, hb, hcell⟩ := hc1 (by omega)
          obtain ⟨c0, c1, c2⟩ := hcell j hlt
          have HCELL := Lib.hid hcell
          clear hc1 hcell
          have hx := hy.at_ j
          have HE0 := Lib.hid (fun h => errQ_prev (L := L) (j := j) h)
          have HE1 := Lib.hid (fun h => errQ_bad (L := L) (j := j) h)
          obtain ⟨X, hX⟩ : ∃ X, X = L.getD j Ent.z := ⟨_, rfl⟩
          rw [← hX] at hx c0 c1 c2 HE0 HE1
          clear hX
          have hky := fun w => risKey_any X.k w hx.1
          obtain ⟨-, ⟨xc0, xc1⟩, xe0, xe1⟩ := hx
          have HB3 := Lib.hid (bal (HI.out.2) (.cells #[.string X.k, .int .i64 X.c, .int .i64 X.e] 49))
          have HI3 := Lib.hid (HI.out.go (b1 (.cells #[.string X.k, .int .i64 X.c, .int .i64 X.e] 49)))
          have hw1 := fun w => within_any X.c 1 1099511627776 w
          cases hK : keyB (byt X.k) with
          | false =>
            have hE : entQ X = 7 := by unfold entQ; rw [hK, if_pos rfl]
            rw [HE1.out (by rw [hE]; decide), hE, if_pos (by decide)] at hv
            subst hv
            rw [hK] at hky
            clear hE hK hw1
            go_wp2_with (go_at_call 39; refine (hky _).mono ?_; rintro e w' ⟨rfl, rfl⟩)
            go_ret
            exact ⟨rfl, HB3.out⟩
          | true =>
            rw [hK] at hky
            by_cases hbad : X.c < 1 ∨ 1099511627776 < X.c ∨ X.e ≠ 0
            · have hE : entQ X = 5 := by unfold entQ; rw [hK, if_neg (by simp), if_pos hbad]
              rw [HE1.out (by rw [hE]; decide), hE, if_pos (by decide)] at hv
              subst hv
              clear hE hK
              have hb3 : (X.c < 1 ∨ 1099511627776 < X.c) ∨ (1 ≤ X.c ∧ X.c ≤ 1099511627776 ∧ X.e ≠ 0) := by omega
              clear hbad
              rcases hb3 with hb3 | ⟨hb3, hb4, hb5⟩
              · rw [show (decide (1 ≤ X.c) && decide (X.c ≤ 1099511627776)) = false by rw [Bool.and_eq_false_iff]; simp; omega] at hw1
                clear hb3
                go_wp2_with (first
                  | (go_at_call 39; refine (hky _).mono ?_; rintro e w' ⟨rfl, rfl⟩)
                  | (go_at_call 35; (with_reducible refine (hw1 _).mono ?_); rintro e w' ⟨rfl, rfl⟩))
                go_ret
                exact ⟨rfl, HB3.out⟩
              · rw [show (decide (1 ≤ X.c) && decide (X.c ≤ 1099511627776)) = true by simp; omega] at hw1
                have hb6 : (X.e == 0) = false := by simpa using hb5
                have hb7 : (X.e != 0) = true := by simpa using hb5
                clear hb5 hb3 hb4
                go_wp2_with (first
                  | (go_at_call 39; refine (hky _).mono ?_; rintro e w' ⟨rfl, rfl⟩)
                  | (go_at_call 35; (with_reducible refine (hw1 _).mono ?_); rintro e w' ⟨rfl, rfl⟩))
                go_ret
                exact ⟨rfl, HB3.out⟩
            · have hE : entQ X = 0 := by unfold entQ; rw [hK, if_neg (by simp), if_neg hbad]
              rw [HE0.out hE] at hv
              have q0 : X.e = 0 := by omega
              have q3 : (X.e == 0) = true := by simpa using q0
              have q4 : (X.e != 0) = false := by simpa using q0
              rw [show (decide (1 ≤ X.c) && decide (X.c ≤ 1099511627776)) = true by simp; omega] at hw1
              have HKY := Lib.hid hK
              clear q0
              clear hE hK hbad
              by_cases hj0 : j = 0
              · subst hj0
                rw [prevK_zero, lessK_empty HKY.out, if_neg (by simp)] at hv
                have HV2 := Lib.hid hv
                clear hv
                simp only [Nat.zero_mul, Nat.add_zero] at c0 c1 c2
                go_wp2_with (first
                  | (go_at_call 39; refine (hky _).mono ?_; rintro e w' ⟨rfl, rfl⟩)
                  | (go_at_call 35; (with_reducible refine (hw1 _).mono ?_); rintro e w' ⟨rfl, rfl⟩))
                go_quiet (fail)
                go_wp2
                exact ⟨⟨1, by omega, rfl, Lib.hid (HI3.out.go (below_drewN (Below.refl _ _) _)), Lib.hid (by simpa using HV2.out)⟩, by simp [intOf]; omega⟩
              · obtain ⟨i, rfl⟩ : ∃ i : Nat, j = i + 1 := ⟨j - 1, by omega⟩
                have hq2 : (i : Int) < (L.length : Int) := by omega
                have hq3 : (0 : Int) ≤ (i : Int) := by omega
                have hq4 : (0 : Int) ≤ (i : Int) + 1 := by omega
                have hq5 : IntKind.i64.wrap ((i : Int) + 1 - 1) = (i : Int) := by rw [IntKind.wrap_i64]; omega
                have hq7 : wrap64 ((i : Int) + 1 - 1) = (i : Int) := by unfold wrap64; omega
                have hq8 : IntKind.i64.wrap (i : Int) = (i : Int) := by rw [IntKind.wrap_i64]; omega
                have hq6 : (0 : Int) < (i : Int) + 1 := by omega
                rw [prevK_succ] at hv
                have hlw : w.heap.size < wr.heap.size := HI.out.1.lt
                obtain ⟨⟨-, -, -, q9, -⟩, -⟩ := HI3.out.1
                have hP3 := (HCELL.out i (by omega)).below (b1 (.cells #[.string X.k, .int .i64 X.c, .int .i64 X.e] 49)) hb
                obtain ⟨z0, -, -⟩ := hP3
                obtain ⟨z3, -, -⟩ := HCELL.out i (by omega)
                generalize L.getD i Ent.z = Y at *
                rcases lessK_tri Y.k X.k with hl | hl | hl
                · rw [hl, if_neg (by simp)] at hv
                  obtain ⟨g1, g2, g3, g4⟩ := cmp_lt hl
                  have HV2 := Lib.hid hv
                  clear hv hl
                  go_wp2_with (first
                    | (go_at_call 39; refine (hky _).mono ?_; rintro e w' ⟨rfl, rfl⟩)
                    | (go_at_call 35; (with_reducible refine (hw1 _).mono ?_); rintro e w' ⟨rfl, rfl⟩))
                  go_quiet (fail)
                  go_wp2
                  exact ⟨⟨i + 1 + 1, by omega, by go_num, Lib.hid (HI3.out.go (below_drewN (Below.refl _ _) _)), HV2⟩, by simp [intOf]; omega⟩
                · have e0 : Y.k = X.k := hl
                  rw [e0] at hv z0 z3
                  rw [lessK_irr, if_pos rfl, if_pos (by decide)] at hv
                  subst hv
                  obtain ⟨g1, g2⟩ := cmp_eq X.k
                  clear hl e0
                  go_wp2_with (first
                    | (go_at_call 39; refine (hky _).mono ?_; rintro e w' ⟨rfl, rfl⟩)
                    | (go_at_call 35; (with_reducible refine (hw1 _).mono ?_); rintro e w' ⟨rfl, rfl⟩))
                  go_quiet (fail)
                  go_wp2
                  go_ret
                  exact ⟨rfl, below_drewN HB3.out _⟩
                · rw [lessK_asym hl, if_pos rfl, if_pos (by decide)] at hv
                  subst hv
                  obtain ⟨g1, g2, g3, g4⟩ := cmp_lt hl
                  clear hl
                  go_wp2_with (first
                    | (go_at_call 39; refine (hky _).mono ?_; rintro e w' ⟨rfl, rfl⟩)
                    | (go_at_call 35; (with_reducible refine (hw1 _).mono ?_); rintro e w' ⟨rfl, rfl⟩))
                  go_quiet (fail)
                  go_wp2
                  go_ret
                  exact ⟨rfl, below_drewN HB3.out _⟩
        · obtain rfl : j = L.length := by omega
          have hv := HV.out
          rw [Nat.sub_self] at hv
          subst hv
          go_wp2
          go_ret
          exact ⟨rfl, HI.out.2⟩
end Go.Proofs.Ytmmdnomfpfcjiaa
