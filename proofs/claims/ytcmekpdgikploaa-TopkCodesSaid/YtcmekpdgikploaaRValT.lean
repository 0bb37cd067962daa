/- The contract of the reference's ValidateTop. -/
import Derived.Test.YtcmekpdgikploaaRVal
namespace Go.Proofs.Ytcmekpdgikploaa
open Go.RowKit
set_option linter.unusedVariables false
set_option linter.unusedSimpArgs false
/-- The state of ValidateTop. -/
def RvS (W : World) (S T : Int) (v : Value) (s : Bool) (w : World) : Prop := TopS W.heap.size S T v s w ∧ Below W.heap.size W w
theorem RvS.go {W : World} {S T : Int} {v : Value} {s : Bool} {w w' : World} (h : RvS W S T v s w) (hb : Below w.heap.size w w') : RvS W S T v s w' := ⟨h.1.below hb h.1.lt, bgo h.2 hb⟩
set_option maxRecDepth 100000 in
set_option maxHeartbeats 4000000 in
theorem rval_any (S T : Int) (L : List Ent) (s : Bool) (a : Option Addr) (n cap : Nat) (w : World) (S0 : -9223372036854775808 ≤ S) (S1 : S ≤ 9223372036854775807) (T0 : -9223372036854775808 ≤ T) (T1 : T ≤ 9223372036854775807) (hr : RdE L (.slice a n cap) w) (hn : L.length ≤ 549755813888) :
    Calls Try.prog 18 #[.agg #[.int .i64 S, .int .i64 T, .slice a n cap, .bool s]] w fun e w' => e = .returned (.int .i64 (valE S T L)) ∧ Below w.heap.size w w' := by
  obtain ⟨a', cap', he⟩ := hr.shape
  simp only [Value.slice.injEq] at he
  obtain ⟨rfl, rfl, rfl⟩ := he
  have hy := hr.1
  have HR := Lib.hid hr
  have HCAP := Lib.hid hr
  clear hr
  unfold valE
  by_cases hp : S < 1 ∨ 32 < S ∨ T < 0 ∨ 1099511627776 < T
  · rw [if_pos hp]
    have hw1 := fun w => within_any S 1 32 w
    have hw2 := fun w => within_any T 0 1099511627776 w
    by_cases hs : S < 1 ∨ 32 < S
    · rw [show (decide (1 ≤ S) && decide (S ≤ 32)) = false by rw [Bool.and_eq_false_iff]; simp; omega] at hw1
      clear hs hp hw2
      go_enter Try.func18, Try.ntmps18
      go_wp2_with (go_at_call 42; (with_reducible refine (hw1 _).mono ?_); rintro e w' ⟨rfl, rfl⟩)
      go_ret
      exact ⟨rfl, b1 _⟩
    · rw [show (decide (1 ≤ S) && decide (S ≤ 32)) = true by simp; omega] at hw1
      rw [show (decide (0 ≤ T) && decide (T ≤ 1099511627776)) = false by rw [Bool.and_eq_false_iff]; simp; omega] at hw2
      clear hs hp
      go_enter Try.func18, Try.ntmps18
      go_wp2_with (go_at_call 42; first | ((with_reducible refine (hw1 _).mono ?_); rintro e w' ⟨rfl, rfl⟩) | ((with_reducible refine (hw2 _).mono ?_); rintro e w' ⟨rfl, rfl⟩))
      go_ret
      exact ⟨rfl, b1 _⟩
  · rw [if_neg hp]
    have hw1 := fun w => within_any S 1 32 w
    have hw2 := fun w => within_any T 0 1099511627776 w
    rw [show (decide (1 ≤ S) && decide (S ≤ 32)) = true by simp; omega] at hw1
    rw [show (decide (0 ≤ T) && decide (T ≤ 1099511627776)) = true by simp; omega] at hw2
    clear hp
    by_cases hl : S < L.length
    · rw [if_pos hl]
      go_enter Try.func18, Try.ntmps18
      go_wp2_with (go_at_call 42; first | ((with_reducible refine (hw1 _).mono ?_); rintro e w' ⟨rfl, rfl⟩) | ((with_reducible refine (hw2 _).mono ?_); rintro e w' ⟨rfl, rfl⟩))
      go_ret
      exact ⟨rfl, b1 _⟩
    · rw [if_neg hl]
      have hl2 : (L.length : Int) ≤ S := by omega
      obtain ⟨V, hV⟩ : ∃ V, V = vgo L L.length 0 := ⟨_, rfl⟩
      rw [← hV]
      have HV := Lib.hid hV
      clear hV
      have HS0 : Hid (RvS w S T (.slice a L.length cap) s (w.alloc (.cells #[.int .i64 S, .int .i64 T, .slice a L.length cap, .bool s] 25))) := Lib.hid ⟨TopS.new S T (.slice a L.length cap) s 25 w, b1 _⟩
      have d2 : decide (S < (L.length : Int)) = false := decide_eq_false (by omega)
      clear hl hl2
      go_enter Try.func18, Try.ntmps18
      go_wp2_with (go_at_call 42; first | ((with_reducible refine (hw1 _).mono ?_); rintro e w' ⟨rfl, rfl⟩) | ((with_reducible refine (hw2 _).mono ?_); rintro e w' ⟨rfl, rfl⟩))
      clear hw1 hw2 d2
      go_loopw [3, 4] (fun i _ wr => ∃ j : Nat, j ≤ L.length ∧ i = .int .i64 (j : Int) ∧ Hid (RvS w S T (.slice a L.length cap) s wr) ∧ Hid (vgo L (L.length - j) j = V)) (fun i _ _ => L.length - (intOf i).toNat)
      case atStart => exact ⟨0, by omega, rfl, HS0, Lib.hid (by rw [Nat.sub_zero]; exact HV.out.symm)⟩
      case round =>
        clear HS0 HV
        obtain ⟨j, hj, rfl, HI, HV⟩ := hrel
        obtain ⟨⟨-, -, q2, -⟩, -⟩ := HI.out.1
        by_cases hlt : j < L.length
        · have hlt2 : (j : Int) < (L.length : Int) := by omega
          have hv := HV.out
          rw [show L.length - j = (L.length - (j + 1)) + 1 by omega] at hv
          unfold vgo at hv
          have hrt := (HR.out.below HI.out.2)
          obtain ⟨-, a1, cap1, he1, hcl, -, hc1⟩ := hrt
          simp only [Value.slice.injEq, true_and] at he1
          obtain ⟨rfl, rfl⟩ := he1
          obtain ⟨b, off, rfl, hb, hcell⟩ := hc1 (by omega)
          obtain ⟨c0, c1, c2⟩ := hcell j hlt
          have HCELL := Lib.hid hcell
          clear hc1 hcell
          have hx := hy.at_ j
          have hee : errAt L j = errAt L j := rfl
          conv at hee => rhs; unfold errAt
          obtain ⟨X, hX⟩ : ∃ X, X = L.getD j Ent.z := ⟨_, rfl⟩
          rw [← hX] at hx c0 c1 c2 hee
          have HX := Lib.hid hX
          clear hX
          have hk := fun w => risKey_any X.k w hx.1
          obtain ⟨-, ⟨xc0, xc1⟩, xe0, xe1⟩ := hx
          have HB3 := Lib.hid (bal (HI.out.2) (.cells #[.string X.k, .int .i64 X.c, .int .i64 X.e] 49))
          have HI3 := Lib.hid (HI.out.go (b1 (.cells #[.string X.k, .int .i64 X.c, .int .i64 X.e] 49)))
          cases hK : keyB (byt X.k) with
          | false =>
            have hE : entE X = 7 := by unfold entE; rw [hK, if_pos rfl]
            rw [hE, if_pos (by decide)] at hee
            rw [hee, if_pos (by decide)] at hv
            subst hv
            rw [hK] at hk
            clear hee hE hK
            go_wp2_with (go_at_call 45; refine (hk _).mono ?_; rintro e w' ⟨rfl, rfl⟩)
            go_ret
            exact ⟨rfl, HB3.out⟩
          | true =>
            rw [hK] at hk
            by_cases hbad : X.c < 1 ∨ 1099511627776 < X.c ∨ X.e < 0 ∨ X.c ≤ X.e
            · have hE : entE X = 5 := by unfold entE; rw [hK, if_neg (by simp), if_pos hbad]
              rw [hE, if_pos (by decide)] at hee
              rw [hee, if_pos (by decide)] at hv
              subst hv
              clear hee hE hK
              have hv1 := fun w => within_any X.c 1 1099511627776 w
              have hv2 := fun w => within_any X.e 0 (X.c - 1) w
              by_cases hc : X.c < 1 ∨ 1099511627776 < X.c
              · rw [show (decide (1 ≤ X.c) && decide (X.c ≤ 1099511627776)) = false by rw [Bool.and_eq_false_iff]; simp; omega] at hv1
                clear hc hbad hv2
                go_wp2_with (first
                  | (go_at_call 45; refine (hk _).mono ?_; rintro e w' ⟨rfl, rfl⟩)
                  | (go_at_call 42; (with_reducible refine (hv1 _).mono ?_); rintro e w' ⟨rfl, rfl⟩))
                go_ret
                exact ⟨rfl, HB3.out⟩
              · rw [show (decide (1 ≤ X.c) && decide (X.c ≤ 1099511627776)) = true by simp; omega] at hv1
                rw [show (decide (0 ≤ X.e) && decide (X.e ≤ X.c - 1)) = false by rw [Bool.and_eq_false_iff]; simp; omega] at hv2
                have q7 : wrap64 (X.c - 1) = X.c - 1 := by unfold wrap64; omega
                clear hbad
                go_wp2_with (first
                  | (go_at_call 45; refine (hk _).mono ?_; rintro e w' ⟨rfl, rfl⟩)
                  | (go_at_call 42; first | ((with_reducible refine (hv1 _).mono ?_); rintro e w' ⟨rfl, rfl⟩) | ((with_reducible refine (hv2 _).mono ?_); rintro e w' ⟨rfl, rfl⟩)))
                go_ret
                exact ⟨rfl, HB3.out⟩
            · have hE : entE X = 0 := by unfold entE; rw [hK, if_neg (by simp), if_neg hbad]
              have hv1 := fun w => within_any X.c 1 1099511627776 w
              have hv2 := fun w => within_any X.e 0 (X.c - 1) w
              rw [show (decide (1 ≤ X.c) && decide (X.c ≤ 1099511627776)) = true by simp; omega] at hv1
              rw [show (decide (0 ≤ X.e) && decide (X.e ≤ X.c - 1)) = true by simp; omega] at hv2
              have q7 : wrap64 (X.c - 1) = X.c - 1 := by unfold wrap64; omega
              rw [hE, if_neg (by decide)] at hee
              have hfd := fun (w' : World) (hb : Below w.heap.size w w') => rfind_any (L.take j) X.k (some ⟨b, off, none⟩) j cap w' ((HR.out.below hb).take hj) (by rw [List.length_take]; omega)
              have hfh := findI_has (L.take j) X.k
              have HFD := Lib.hid hfd
              clear hE hbad hK hfd
              have hjc : (j : Int) ≤ (cap : Int) := by omega
              have hjl : (j : Int) ≤ (L.length : Int) := by omega
              have hj0' : (0 : Int) ≤ (j : Int) := by omega
              cases hH : hasK (L.take j) X.k with
              | true =>
                rw [if_pos hH] at hee
                rw [hee, if_pos (by decide)] at hv
                subst hv
                rw [hH] at hfh
                clear hee hH
                go_wp2_with (first
                  | (go_at_call 45; refine (hk _).mono ?_; rintro e w' ⟨rfl, rfl⟩)
                  | (go_at_call 42; first | ((with_reducible refine (hv1 _).mono ?_); rintro e w' ⟨rfl, rfl⟩) | ((with_reducible refine (hv2 _).mono ?_); rintro e w' ⟨rfl, rfl⟩)))
                clear hv1 hv2 hk
                obtain ⟨⟨-, -, qa2, -⟩, -⟩ := HI3.out.1
                go_quiet ((go_at_call 38; exact quiet_left (HFD.out _ (below_drewN HB3.out _))))
                have I2' := Lib.hid (HI3.out.go (below_drewN (Below.refl _ _) nq))
                have HAX' : Hid (At3 X wr.heap.size 0 ((wr.alloc (.cells #[.string X.k, .int .i64 X.c, .int .i64 X.e] 49)).drewN nq)) := Lib.hid ⟨by go_simp, by go_simp, by go_simp⟩
                have HWB' : Hid (Below (wr.alloc (.cells #[.string X.k, .int .i64 X.c, .int .i64 X.e] 49)).heap.size (wr.alloc (.cells #[.string X.k, .int .i64 X.c, .int .i64 X.e] 49)) ((wr.alloc (.cells #[.string X.k, .int .i64 X.c, .int .i64 X.e] 49)).drewN nq)) := Lib.hid (below_drewN (Below.refl _ _) nq)
                generalize (wr.alloc (.cells #[.string X.k, .int .i64 X.c, .int .i64 X.e] 49)).drewN nq = w2 at *
                go_wp2
                go_ret
                exact ⟨rfl, I2'.out.2⟩
              | false =>
                rw [if_neg (by rw [hH]; simp)] at hee
                rw [hH] at hfh
                by_cases hj0 : j = 0
                · rw [if_neg (by omega)] at hee
                  rw [hee, if_neg (by decide)] at hv
                  have HV2 := Lib.hid hv
                  clear hv hee
                  subst hj0
                  simp only [Nat.zero_mul, Nat.add_zero] at c0 c1 c2
                  go_wp2_with (first
                    | (go_at_call 45; refine (hk _).mono ?_; rintro e w' ⟨rfl, rfl⟩)
                    | (go_at_call 42; first | ((with_reducible refine (hv1 _).mono ?_); rintro e w' ⟨rfl, rfl⟩) | ((with_reducible refine (hv2 _).mono ?_); rintro e w' ⟨rfl, rfl⟩)))
                  clear hv1 hv2 hk
                  obtain ⟨⟨-, -, qa2, -⟩, -⟩ := HI3.out.1
                  go_quiet ((go_at_call 38; exact quiet_left (HFD.out _ (below_drewN HB3.out _))))
                  have I2' := Lib.hid (HI3.out.go (below_drewN (Below.refl _ _) nq))
                  have HAX' : Hid (At3 X wr.heap.size 0 ((wr.alloc (.cells #[.string X.k, .int .i64 X.c, .int .i64 X.e] 49)).drewN nq)) := Lib.hid ⟨by go_simp, by go_simp, by go_simp⟩
                  have HWB' : Hid (Below (wr.alloc (.cells #[.string X.k, .int .i64 X.c, .int .i64 X.e] 49)).heap.size (wr.alloc (.cells #[.string X.k, .int .i64 X.c, .int .i64 X.e] 49)) ((wr.alloc (.cells #[.string X.k, .int .i64 X.c, .int .i64 X.e] 49)).drewN nq)) := Lib.hid (below_drewN (Below.refl _ _) nq)
                  generalize (wr.alloc (.cells #[.string X.k, .int .i64 X.c, .int .i64 X.e] 49)).drewN nq = w2 at *
                  obtain ⟨⟨-, -, t2, -⟩, -⟩ := I2'.out.1
                  go_wp2
                  go_quiet (fail)
                  go_wp2
                  exact ⟨⟨1, by omega, rfl, Lib.hid (I2'.out.go (below_drewN (Below.refl _ _) _)), Lib.hid (by simpa using HV2.out)⟩, by simp [intOf]; omega⟩
                · obtain ⟨i, rfl⟩ : ∃ i : Nat, j = i + 1 := ⟨j - 1, by omega⟩
                  have hee2 : errAt L (i + 1) = if bef (L.getD i Ent.z) X = false then 19 else 0 := by
                    rw [hee, Nat.add_sub_cancel]
                    simp
                  have hq2 : (i : Int) < (L.length : Int) := by omega
                  have hq3 : (0 : Int) ≤ (i : Int) := by omega
                  have hq4 : (0 : Int) ≤ (i : Int) + 1 := by omega
                  have hq5 : IntKind.i64.wrap ((i : Int) + 1 - 1) = (i : Int) := by rw [IntKind.wrap_i64]; omega
                  have hq7 : wrap64 ((i : Int) + 1 - 1) = (i : Int) := by unfold wrap64; omega
                  have hq8 : IntKind.i64.wrap (i : Int) = (i : Int) := by rw [IntKind.wrap_i64]; omega
                  have hq6 : (0 : Int) < (i : Int) + 1 := by omega
                  have hq9 : (i : Int) + 1 ≤ (L.length : Int) := by omega
                  have hA3 := HCELL.out i (by omega)
                  have HPB : Hid (b < (wr.alloc (.cells #[.string X.k, .int .i64 X.c, .int .i64 X.e] 49)).heap.size) := Lib.hid (by simp; omega)
                  have HP3 := Lib.hid (hA3.below (b1 (.cells #[.string X.k, .int .i64 X.c, .int .i64 X.e] 49)) hb)
                  have hcm := fun w => before_any (L.getD i Ent.z) X w
                  clear hee hj0 hA3 hy
                  generalize L.getD i Ent.z = P at *
                  cases hbe : bef P X with
                  | false =>
                    rw [hee2, hbe, if_pos rfl, if_pos (by decide)] at hv
                    subst hv
                    rw [hbe] at hcm
                    clear hee2 hbe hH
                    go_wp2_with (first
                      | (go_at_call 45; refine (hk _).mono ?_; rintro e w' ⟨rfl, rfl⟩)
                      | (go_at_call 42; first | ((with_reducible refine (hv1 _).mono ?_); rintro e w' ⟨rfl, rfl⟩) | ((with_reducible refine (hv2 _).mono ?_); rintro e w' ⟨rfl, rfl⟩)))
                    clear hv1 hv2 hk
                    obtain ⟨⟨-, -, qa2, -⟩, -⟩ := HI3.out.1
                    go_quiet ((go_at_call 38; exact quiet_left (HFD.out _ (below_drewN HB3.out _))))
                    have I2' := Lib.hid (HI3.out.go (below_drewN (Below.refl _ _) nq))
                    have HAX' : Hid (At3 X wr.heap.size 0 ((wr.alloc (.cells #[.string X.k, .int .i64 X.c, .int .i64 X.e] 49)).drewN nq)) := Lib.hid ⟨by go_simp, by go_simp, by go_simp⟩
                    have HWB' : Hid (Below (wr.alloc (.cells #[.string X.k, .int .i64 X.c, .int .i64 X.e] 49)).heap.size (wr.alloc (.cells #[.string X.k, .int .i64 X.c, .int .i64 X.e] 49)) ((wr.alloc (.cells #[.string X.k, .int .i64 X.c, .int .i64 X.e] 49)).drewN nq)) := Lib.hid (below_drewN (Below.refl _ _) nq)
                    generalize (wr.alloc (.cells #[.string X.k, .int .i64 X.c, .int .i64 X.e] 49)).drewN nq = w2 at *
                    obtain ⟨x0, x1, x2⟩ := HAX'.out
                    obtain ⟨p0, p1, p2⟩ := HP3.out.below HWB'.out HPB.out
                    obtain ⟨⟨-, -, t2, -⟩, -⟩ := I2'.out.1
                    go_wp2
                    have hBd2 : Below w2.heap.size w2 w2.drew := (Below.refl w2.heap.size w2).drew
                    have HSB : Hid (∀ w1 w' : World, Below w2.heap.size w2 w1 → Below w1.heap.size w1 w' → Below w2.heap.size w2 w' ∧ TopS w.heap.size S T (.slice (some ⟨b, off, none⟩) L.length cap) s w' ∧ At3 X wr.heap.size 0 w' ∧ At3 P b (off + i * 3) w') :=
                      Lib.hid (fun w1 w' h k => by
                        have hb := bgo h k
                        have hz : wr.heap.size < w2.heap.size := Nat.lt_of_lt_of_le (by simp) HWB'.out.size
                        exact ⟨hb, (I2'.out.go hb).1, HAX'.out.below hb hz, (HP3.out.below HWB'.out HPB.out).below hb (Nat.lt_of_lt_of_le HPB.out HWB'.out.size)⟩)
                    go_region_held3 (fun w' => Below w2.heap.size w2 w' ∧ w'.cell? ⟨w.heap.size, 2, none⟩ = some (.slice (some ⟨b, off, none⟩) L.length cap) ∧ w'.cell? ⟨wr.heap.size, 0, none⟩ = some (.string X.k) ∧ w'.cell? ⟨wr.heap.size, 1, none⟩ = some (.int .i64 X.c) ∧ w'.cell? ⟨wr.heap.size, 2, none⟩ = some (.int .i64 X.e) ∧ w'.cell? ⟨b, off + i * 3, none⟩ = some (.string P.k) ∧ w'.cell? ⟨b, off + i * 3 + 1, none⟩ = some (.int .i64 P.c) ∧ w'.cell? ⟨b, off + i * 3 + 2, none⟩ = some (.int .i64 P.e)) (go_keep)
                      (first | (go_at_call 46; refine (hcm _).mono ?_; rintro e w' ⟨rfl, hb⟩; obtain ⟨S1, ⟨⟨-, -, t2, -⟩, -⟩, ⟨x0, x1, x2⟩, p0, p1, p2⟩ := HSB.out _ w' (by assumption) hb; clear hb))
                    all_goals
                      go_wp2
                      go_ret
                      exact ⟨rfl, bgo I2'.out.2 S1⟩
                  | true =>
                    rw [hee2, hbe, if_neg (by simp)] at hv
                    have HV2 := Lib.hid hv
                    rw [hbe] at hcm
                    clear hee2 hbe hv hH
                    go_wp2_with (first
                      | (go_at_call 45; refine (hk _).mono ?_; rintro e w' ⟨rfl, rfl⟩)
                      | (go_at_call 42; first | ((with_reducible refine (hv1 _).mono ?_); rintro e w' ⟨rfl, rfl⟩) | ((with_reducible refine (hv2 _).mono ?_); rintro e w' ⟨rfl, rfl⟩)))
                    clear hv1 hv2 hk
                    obtain ⟨⟨-, -, qa2, -⟩, -⟩ := HI3.out.1
                    go_quiet ((go_at_call 38; exact quiet_left (HFD.out _ (below_drewN HB3.out _))))
                    have I2' := Lib.hid (HI3.out.go (below_drewN (Below.refl _ _) nq))
                    have HAX' : Hid (At3 X wr.heap.size 0 ((wr.alloc (.cells #[.string X.k, .int .i64 X.c, .int .i64 X.e] 49)).drewN nq)) := Lib.hid ⟨by go_simp, by go_simp, by go_simp⟩
                    have HWB' : Hid (Below (wr.alloc (.cells #[.string X.k, .int .i64 X.c, .int .i64 X.e] 49)).heap.size (wr.alloc (.cells #[.string X.k, .int .i64 X.c, .int .i64 X.e] 49)) ((wr.alloc (.cells #[.string X.k, .int .i64 X.c, .int .i64 X.e] 49)).drewN nq)) := Lib.hid (below_drewN (Below.refl _ _) nq)
                    generalize (wr.alloc (.cells #[.string X.k, .int .i64 X.c, .int .i64 X.e] 49)).drewN nq = w2 at *
                    obtain ⟨x0, x1, x2⟩ := HAX'.out
                    obtain ⟨p0, p1, p2⟩ := HP3.out.below HWB'.out HPB.out
                    obtain ⟨⟨-, -, t2, -⟩, -⟩ := I2'.out.1
                    go_wp2
                    have hBd2 : Below w2.heap.size w2 w2.drew := (Below.refl w2.heap.size w2).drew
                    have HSB : Hid (∀ w1 w' : World, Below w2.heap.size w2 w1 → Below w1.heap.size w1 w' → Below w2.heap.size w2 w' ∧ TopS w.heap.size S T (.slice (some ⟨b, off, none⟩) L.length cap) s w' ∧ At3 X wr.heap.size 0 w' ∧ At3 P b (off + i * 3) w') :=
                      Lib.hid (fun w1 w' h k => by
                        have hb := bgo h k
                        have hz : wr.heap.size < w2.heap.size := Nat.lt_of_lt_of_le (by simp) HWB'.out.size
                        exact ⟨hb, (I2'.out.go hb).1, HAX'.out.below hb hz, (HP3.out.below HWB'.out HPB.out).below hb (Nat.lt_of_lt_of_le HPB.out HWB'.out.size)⟩)
                    go_region_held3 (fun w' => Below w2.heap.size w2 w' ∧ w'.cell? ⟨w.heap.size, 2, none⟩ = some (.slice (some ⟨b, off, none⟩) L.length cap) ∧ w'.cell? ⟨wr.heap.size, 0, none⟩ = some (.string X.k) ∧ w'.cell? ⟨wr.heap.size, 1, none⟩ = some (.int .i64 X.c) ∧ w'.cell? ⟨wr.heap.size, 2, none⟩ = some (.int .i64 X.e) ∧ w'.cell? ⟨b, off + i * 3, none⟩ = some (.string P.k) ∧ w'.cell? ⟨b, off + i * 3 + 1, none⟩ = some (.int .i64 P.c) ∧ w'.cell? ⟨b, off + i * 3 + 2, none⟩ = some (.int .i64 P.e)) (go_keep)
                      (first | (go_at_call 46; refine (hcm _).mono ?_; rintro e w' ⟨rfl, hb⟩; obtain ⟨S1, ⟨⟨-, -, t2, -⟩, -⟩, ⟨x0, x1, x2⟩, p0, p1, p2⟩ := HSB.out _ w' (by assumption) hb; clear hb))
                    all_goals
                      go_wp2
                      exact ⟨⟨i + 1 + 1, by omega, by go_num, Lib.hid (I2'.out.go S1), HV2⟩, by simp [intOf]; omega⟩
        · obtain rfl : j = L.length := by omega
          have hv := HV.out
          rw [Nat.sub_self] at hv
          subst hv
          go_wp2
          go_ret
          exact ⟨rfl, HI.out.2⟩
end Go.Proofs.Ytcmekpdgikploaa
