/- PVal, RVal, PIdx, RSrt, InsN: in one text. -/
import Derived.Test.YtjibbnknliamkaaGreatDoorPk04
import Derived.Test.YtjibbnknliamkaaGreatDoorProg
import Derived.Test.YtjibbnknliamkaaGreatDoorPk00
import Derived.Test.YtjibbnknliamkaaGreatDoorPk01
import Derived.Test.YtjibbnknliamkaaGreatDoorPk03
import Derived.WalkKit
import Derived.ProofKit
import Derived.Handy
import Derived.Shelf.Small.Bits
import Derived.Shelf.Strconv.Itoa0
import Derived.Shelf.Bits.Mul64
import Derived.Shelf.Spec.TrailingZeros
import Derived.Lib.SliceRun
import Derived.Shelf.Abstract
namespace Go.Proofs.YtjibbnknliamkaaGreatDoor
open Go.RowKit
set_option linter.unusedVariables false
set_option linter.unusedSimpArgs false
theorem isz_any (S : Int) (w : World) (S0 : -9223372036854775808 ≤ S) (S1 : S ≤ 9223372036854775807) : Calls Tryz.prog 142 #[.int .i64 S] w fun e w' => e = .returned (.bool (decide (1 ≤ S) && decide (S ≤ 32))) ∧ w = w' := by
  go_enter Tryz.func142, Tryz.ntmps142
  go_wp2
  all_goals
    go_ret
    exact ⟨ret_bool (by first | rfl | (rw [Bool.eq_iff_iff]; simp [*] <;> omega)), rfl⟩
theorem vent_any (x : Ent) (w : World) (hx : x.ok) : Calls Tryz.prog 143 #[.agg #[.string x.k, .int .i64 x.c, .int .i64 x.e]] w fun e w' => e = .returned (.int .i64 (entE x)) ∧ Below w.heap.size w w' := by
  have hk := fun w => isKey_any x.k w hx.1
  obtain ⟨-, ⟨c0, c1⟩, e0, e1⟩ := hx
  unfold entE
  generalize keyB (byt x.k) = K at *
  obtain ⟨k, c, e⟩ := x
  dsimp only at *
  cases K
  all_goals
    go_enter Tryz.func143, Tryz.ntmps143
    go_wp2_with (go_at_call 26; refine (hk _).mono ?_; rintro e w' ⟨rfl, rfl⟩)
    all_goals
      go_ret
      exact ⟨ret_int (by first | rfl | (simp [*] <;> omega)), b1 _⟩
/-- The state of Validate at entry j. -/
def ValS (W : World) (S T : Int) (v : Value) (s : Bool) (L : List Ent) (j : Nat) (w : World) : Prop :=
  TopS W.heap.size S T v s w ∧ SeenM L j (W.heap.size + 1) w ∧ Below W.heap.size W w
theorem ValS.rd {W : World} {S T : Int} {v : Value} {s : Bool} {L : List Ent} {j : Nat} {w : World} (h : ValS W S T v s L j w) (hr : RdE L v W) : RdE L v w := hr.below h.2.2
theorem ValS.go {W : World} {S T : Int} {v : Value} {s : Bool} {L : List Ent} {j : Nat} {w w' : World} (h : ValS W S T v s L j w) (hb : Below w.heap.size w w') : ValS W S T v s L j w' :=
  ⟨h.1.below hb h.1.lt, h.2.1.below hb, bgo h.2.2 hb⟩
theorem ValS.put {W : World} {S T : Int} {v : Value} {s : Bool} {L : List Ent} {j : Nat} {w w' : World} (h : ValS W S T v s L j w) (hm : SeenM L (j + 1) (W.heap.size + 1) w') (hg : w.grownBy w' (some (W.heap.size + 1))) : ValS W S T v s L (j + 1) w' :=
  ⟨h.1.keep (hg.block _ h.1.lt (by intro e; injection e with e; omega)), hm, h.2.2.grown hg h.2.2.size (fun k hk => by cases hk; omega)⟩
set_option maxRecDepth 100000 in
set_option maxHeartbeats 4000000 in
theorem pval_any (S T : Int) (L : List Ent) (s : Bool) (a : Option Addr) (n cap : Nat) (w : World) (S0 : -9223372036854775808 ≤ S) (S1 : S ≤ 9223372036854775807) (T0 : -9223372036854775808 ≤ T) (T1 : T ≤ 9223372036854775807) (hr : RdE L (.slice a n cap) w) (hn : L.length ≤ 549755813888) :
    Calls Tryz.prog 108 #[.agg #[.int .i64 S, .int .i64 T, .slice a n cap, .bool s]] w fun e w' => e = .returned (.int .i64 (valE S T L)) ∧ Below w.heap.size w w' := by
  have hz := fun w => isz_any S w S0 S1
  obtain ⟨a', cap', he⟩ := hr.shape
  simp only [Value.slice.injEq] at he
  obtain ⟨rfl, rfl, rfl⟩ := he
  have hy := hr.1
  have HR := Lib.hid hr
  clear hr
  unfold valE
  by_cases hp : S < 1 ∨ 32 < S ∨ T < 0 ∨ 1099511627776 < T
  · rw [if_pos hp]
    by_cases hs : S < 1 ∨ 32 < S
    · rw [show (decide (1 ≤ S) && decide (S ≤ 32)) = false by rw [Bool.and_eq_false_iff]; simp; omega] at hz
      clear hs hp
      go_enter Tryz.func108, Tryz.ntmps108
      go_wp2_with (go_at_call 142; refine (hz _).mono ?_; rintro e w' ⟨rfl, rfl⟩)
      go_ret
      exact ⟨rfl, b1 _⟩
    · rw [show (decide (1 ≤ S) && decide (S ≤ 32)) = true by simp; omega] at hz
      have hT : T < 0 ∨ (0 ≤ T ∧ 1099511627776 < T) := by omega
      clear hs hp
      rcases hT with hT | ⟨hT, hT2⟩
      all_goals
        go_enter Tryz.func108, Tryz.ntmps108
        go_wp2_with (go_at_call 142; refine (hz _).mono ?_; rintro e w' ⟨rfl, rfl⟩)
        go_ret
        exact ⟨rfl, b1 _⟩
  · rw [if_neg hp]
    rw [show (decide (1 ≤ S) && decide (S ≤ 32)) = true by simp; omega] at hz
    have hT : 0 ≤ T := by omega
    have hT2 : T ≤ 1099511627776 := by omega
    clear hp
    by_cases hl : S < L.length
    · rw [if_pos hl]
      go_enter Tryz.func108, Tryz.ntmps108
      go_wp2_with (go_at_call 142; refine (hz _).mono ?_; rintro e w' ⟨rfl, rfl⟩)
      go_ret
      exact ⟨rfl, b1 _⟩
    · rw [if_neg hl]
      have hl2 : (L.length : Int) ≤ S := by omega
      clear hl
      obtain ⟨V, hV⟩ : ∃ V, V = vgo L L.length 0 := ⟨_, rfl⟩
      rw [← hV]
      have HV := Lib.hid hV
      clear hV
      have HS0 : Hid (ValS w S T (.slice a L.length cap) s L 0 ((w.alloc (.cells #[.int .i64 S, .int .i64 T, .slice a L.length cap, .bool s] 41)).alloc (.map #[] 0))) := Lib.hid ⟨(TopS.new S T (.slice a L.length cap) s 41 w).below (b1 _) (by simp), (by have := SeenM.new L (w.alloc (.cells #[.int .i64 S, .int .i64 T, .slice a L.length cap, .bool s] 41)); simpa using this), b2 _ _⟩
      have hmm := @run_makeMap Tryz.prog
      have d0 : decide (T < 0) = false := decide_eq_false (by omega)
      have d1 : decide (1099511627776 < T) = false := decide_eq_false (by omega)
      have d2 : decide (S < (L.length : Int)) = false := decide_eq_false (by omega)
      clear hT hT2 hl2
      go_enter Tryz.func108, Tryz.ntmps108
      go_wp2_with (go_at_call 142; refine (hz _).mono ?_; rintro e w' ⟨rfl, rfl⟩)
      clear hz hmm
      go_loopw [4, 5, 6, 31] (fun _ _ _ i wr => ∃ j : Nat, j ≤ L.length ∧ i = .int .i64 (j : Int) ∧ Hid (ValS w S T (.slice a L.length cap) s L j wr) ∧ Hid (vgo L (L.length - j) j = V)) (fun _ _ _ i _ => L.length - (intOf i).toNat)
      case atStart => exact ⟨0, by omega, rfl, HS0, Lib.hid (by rw [Nat.sub_zero]; exact HV.out.symm)⟩
      case round =>
        clear HS0 HV
        obtain ⟨j, hj, rfl, HI, HV⟩ := hrel
        by_cases hlt : j < L.length
        · have hlt2 : (j : Int) < (L.length : Int) := by omega
          have hv := HV.out
          rw [show L.length - j = (L.length - (j + 1)) + 1 by omega] at hv
          unfold vgo at hv
          obtain ⟨-, a1, cap1, he1, -, -, hc1⟩ := HI.out.rd HR.out
          simp only [Value.slice.injEq, true_and] at he1
          obtain ⟨rfl, rfl⟩ := he1
          obtain ⟨b, off, rfl, hb, hcell⟩ := hc1 (by omega)
          obtain ⟨c0, c1, c2⟩ := hcell j hlt
          have HCELL := Lib.hid hcell
          clear hc1 hcell
          have hx := hy.at_ j
          have hee : errAt L j = errAt L j := rfl
          conv at hee => rhs; unfold errAt
          have hve := fun w => vent_any (L.getD j Ent.z) w hx
          have HXk : Hid ((L.getD j Ent.z).k = (L.getD j Ent.z).k) := Lib.hid rfl
          obtain ⟨X, hX⟩ : ∃ X, X = L.getD j Ent.z := ⟨_, rfl⟩
          rw [← hX] at hve hx c0 c1 c2 hee
          have HX := Lib.hid hX
          clear hX HXk
          have HKS := Lib.hid hx.1
          obtain ⟨hE1, hE2⟩ : -9223372036854775808 ≤ entE X ∧ entE X ≤ 9223372036854775807 := by rcases entE_cases X with h | h | h <;> rw [h] <;> decide
          have HB3 := Lib.hid (bal (HI.out.2.2) (.cells #[.string X.k, .int .i64 X.c, .int .i64 X.e] 64))
          have HI3 := Lib.hid (HI.out.go (b1 (.cells #[.string X.k, .int .i64 X.c, .int .i64 X.e] 64)))
          have HCE : Hid ((wr.alloc (.cells #[.string X.k, .int .i64 X.c, .int .i64 X.e] 64)).cell? ⟨wr.heap.size, 0, none⟩ = some (.string X.k)) := Lib.hid (by go_simp)
          by_cases hE : entE X = 0
          · rw [if_neg (by simpa using hE)] at hee
            rw [hE] at hve
            clear hE1 hE2 hE
            cases hH : hasK (L.take j) X.k with
            | true =>
              rw [if_pos hH] at hee
              rw [hee, if_pos (by decide)] at hv
              subst hv
              go_wp2_with (first
                | (go_at_call 143; refine (hve _).mono ?_; rintro e w2 ⟨rfl, hb2⟩; have B2 := Lib.hid (bgo HB3.out hb2); have I2 := Lib.hid (HI3.out.go hb2); have hce := HCE.out; rw [← hb2.cell (p := ⟨wr.heap.size, 0, none⟩) (by simp)] at hce; clear hb2)
                | (at_lookup; refine wp_seen_look rfl _ _ rfl L j (w.heap.size + 1) X.k rfl rfl I2.out.2.1 HKS.out ?_; rw [hH]))
              go_ret
              exact ⟨rfl, B2.out⟩
            | false =>
              rw [if_neg (by rw [hH]; simp)] at hee
              have HAX : Hid (At3 X wr.heap.size 0 (wr.alloc (.cells #[.string X.k, .int .i64 X.c, .int .i64 X.e] 64))) := Lib.hid ⟨by go_simp, by go_simp, by go_simp⟩
              by_cases hj0 : j = 0
              · rw [if_neg (by omega)] at hee
                rw [hee, if_neg (by decide)] at hv
                have HV2 := Lib.hid hv
                clear hv hee
                subst hj0
                simp only [Nat.zero_mul, Nat.add_zero] at c0 c1 c2
                go_wp2_with (first
                  | (go_at_call 143; refine (hve _).mono ?_; rintro e w2 ⟨rfl, hb2⟩; have B2 := Lib.hid (bgo HB3.out hb2); have I2 := Lib.hid (HI3.out.go hb2); have hce := HCE.out; rw [← hb2.cell (p := ⟨wr.heap.size, 0, none⟩) (by simp)] at hce; clear hb2)
                  | (at_lookup; refine wp_seen_look rfl _ _ rfl L 0 (w.heap.size + 1) X.k rfl rfl I2.out.2.1 HKS.out ?_; rw [hH]))
                simp only [Act.put, List.setIfInBounds_toArray, List.set_cons_zero, List.set_cons_succ]
                go_quiet (fail)
                go_wp2_with (at_mapUpdate; refine wp_seen_put rfl _ _ _ rfl L 0 (w.heap.size + 1) X.k (by rw [← HX.out]) hlt rfl rfl rfl (I2.out.go (below_drewN (Below.refl _ _) _)).2.1 HKS.out (by decide) ?_; intro w4 hs4 hg4)
                have I4 := Lib.hid ((I2.out.go (below_drewN (Below.refl _ _) _)).put hs4 hg4)
                clear hs4 hg4
                go_wp2
                exact ⟨⟨1, by omega, rfl, I4, Lib.hid (by simpa using HV2.out)⟩, by simp [intOf]; omega⟩
              · obtain ⟨i, rfl⟩ : ∃ i : Nat, j = i + 1 := ⟨j - 1, by omega⟩
                have hee2 : errAt L (i + 1) = if bef (L.getD i Ent.z) X = false then 19 else 0 := by
                  rw [hee, Nat.add_sub_cancel]
                  simp
                have hq2 : (i : Int) < (L.length : Int) := by omega
                have hq3 : (0 : Int) ≤ (i : Int) := by omega
                have hq4 : (0 : Int) ≤ (i : Int) + 1 := by omega
                have hq5 : IntKind.i64.wrap ((i : Int) + 1 - 1) = (i : Int) := by rw [IntKind.wrap_i64]; omega
                have hq7 : wrap64 ((i : Int) + 1 - 1) = (i : Int) := by unfold wrap64; omega
                have hq8 : IntKind.i64.wrap (i : Int) = (i : Int) := by rw [IntKind.wrap_i64]; omega
                have hq6 : (0 : Int) < (i : Int) + 1 := by omega
                have hA3 := HCELL.out i (by omega)
                have HPB : Hid (b < (wr.alloc (.cells #[.string X.k, .int .i64 X.c, .int .i64 X.e] 64)).heap.size) := Lib.hid (by simp; omega)
                have HP3 := Lib.hid (hA3.below (b1 (.cells #[.string X.k, .int .i64 X.c, .int .i64 X.e] 64)) hb)
                have hcm := fun w => compare_any (L.getD i Ent.z) X w
                have hcd := cmpE_bd (L.getD i Ent.z) X
                have hcb := cmpE_bef (L.getD i Ent.z) X
                clear hee hj0 hA3 hy
                generalize L.getD i Ent.z = P at *
                generalize cmpE P X = r at *
                cases hbe : bef P X with
                | false =>
                  have hr : ¬ r < 0 := by rw [hbe] at hcb; exact of_decide_eq_false hcb
                  have hr2 : 0 ≤ r := by omega
                  rw [hee2, hbe, if_pos rfl, if_pos (by decide)] at hv
                  subst hv
                  clear hee2 hcb hbe
                  go_wp2_with (first
                    | (go_at_call 143; refine (hve _).mono ?_; rintro e w2 ⟨rfl, hb2⟩; have HB2 := Lib.hid hb2; have I2 := Lib.hid (HI3.out.go hb2); obtain ⟨x0, x1, x2⟩ := HAX.out.below hb2 (by simp); obtain ⟨p0, p1, p2⟩ := HP3.out.below hb2 HPB.out; obtain ⟨⟨-, -, t2, -⟩, -⟩ := I2.out.1; clear hb2)
                    | (at_lookup; refine wp_seen_look rfl _ _ rfl L (i + 1) (w.heap.size + 1) X.k rfl rfl I2.out.2.1 HKS.out ?_; rw [hH]))
                  simp only [Act.put, List.setIfInBounds_toArray, List.set_cons_zero, List.set_cons_succ]
                  have hBd : Below w2.heap.size w2 w2.drew := (Below.refl w2.heap.size w2).drew
                  have HSB : Hid (∀ w1 w' : World, Below w2.heap.size w2 w1 → Below w1.heap.size w1 w' → Below w2.heap.size w2 w' ∧ TopS w.heap.size S T (.slice (some ⟨b, off, none⟩) L.length cap) s w' ∧ At3 X wr.heap.size 0 w' ∧ At3 P b (off + i * 3) w') :=
                    Lib.hid (fun w1 w' h k => by
                      have hb := bgo h k
                      exact ⟨hb, (I2.out.go hb).1, (HAX.out.below HB2.out (by simp)).below hb (Nat.lt_of_lt_of_le (by simp) HB2.out.size), (HP3.out.below HB2.out HPB.out).below hb (Nat.lt_of_lt_of_le HPB.out HB2.out.size)⟩)
                  go_region_held3 (fun w' => Below w2.heap.size w2 w' ∧ w'.cell? ⟨w.heap.size, 2, none⟩ = some (.slice (some ⟨b, off, none⟩) L.length cap) ∧ w'.cell? ⟨wr.heap.size, 0, none⟩ = some (.string X.k) ∧ w'.cell? ⟨wr.heap.size, 1, none⟩ = some (.int .i64 X.c) ∧ w'.cell? ⟨wr.heap.size, 2, none⟩ = some (.int .i64 X.e) ∧ w'.cell? ⟨b, off + i * 3, none⟩ = some (.string P.k) ∧ w'.cell? ⟨b, off + i * 3 + 1, none⟩ = some (.int .i64 P.c) ∧ w'.cell? ⟨b, off + i * 3 + 2, none⟩ = some (.int .i64 P.e)) (go_keep)
                    (first | (go_at_call 144; refine (hcm _).mono ?_; rintro e w' ⟨rfl, hb⟩; obtain ⟨S1, ⟨⟨-, -, t2, -⟩, -⟩, ⟨x0, x1, x2⟩, p0, p1, p2⟩ := HSB.out _ w' (by assumption) hb; clear hb))
                  all_goals
                    go_wp2
                    go_ret
                    exact ⟨rfl, bgo I2.out.2.2 S1⟩
                | true =>
                  have hr : r < 0 := by rw [hbe] at hcb; exact of_decide_eq_true hcb
                  have hr2 : ¬ 0 ≤ r := by omega
                  rw [hee2, hbe, if_neg (by simp)] at hv
                  have HV2 := Lib.hid hv
                  clear hee2 hcb hbe hv
                  go_wp2_with (first
                    | (go_at_call 143; refine (hve _).mono ?_; rintro e w2 ⟨rfl, hb2⟩; have HB2 := Lib.hid hb2; have I2 := Lib.hid (HI3.out.go hb2); obtain ⟨x0, x1, x2⟩ := HAX.out.below hb2 (by simp); obtain ⟨p0, p1, p2⟩ := HP3.out.below hb2 HPB.out; obtain ⟨⟨-, -, t2, -⟩, -⟩ := I2.out.1; clear hb2)
                    | (at_lookup; refine wp_seen_look rfl _ _ rfl L (i + 1) (w.heap.size + 1) X.k rfl rfl I2.out.2.1 HKS.out ?_; rw [hH]))
                  simp only [Act.put, List.setIfInBounds_toArray, List.set_cons_zero, List.set_cons_succ]
                  have hBd : Below w2.heap.size w2 w2.drew := (Below.refl w2.heap.size w2).drew
                  have HSB : Hid (∀ w1 w' : World, Below w2.heap.size w2 w1 → Below w1.heap.size w1 w' → Below w2.heap.size w2 w' ∧ TopS w.heap.size S T (.slice (some ⟨b, off, none⟩) L.length cap) s w' ∧ At3 X wr.heap.size 0 w' ∧ At3 P b (off + i * 3) w') :=
                    Lib.hid (fun w1 w' h k => by
                      have hb := bgo h k
                      exact ⟨hb, (I2.out.go hb).1, (HAX.out.below HB2.out (by simp)).below hb (Nat.lt_of_lt_of_le (by simp) HB2.out.size), (HP3.out.below HB2.out HPB.out).below hb (Nat.lt_of_lt_of_le HPB.out HB2.out.size)⟩)
                  go_region_held3 (fun w' => Below w2.heap.size w2 w' ∧ w'.cell? ⟨w.heap.size, 2, none⟩ = some (.slice (some ⟨b, off, none⟩) L.length cap) ∧ w'.cell? ⟨wr.heap.size, 0, none⟩ = some (.string X.k) ∧ w'.cell? ⟨wr.heap.size, 1, none⟩ = some (.int .i64 X.c) ∧ w'.cell? ⟨wr.heap.size, 2, none⟩ = some (.int .i64 X.e) ∧ w'.cell? ⟨b, off + i * 3, none⟩ = some (.string P.k) ∧ w'.cell? ⟨b, off + i * 3 + 1, none⟩ = some (.int .i64 P.c) ∧ w'.cell? ⟨b, off + i * 3 + 2, none⟩ = some (.int .i64 P.e)) (go_keep)
                    (first | (go_at_call 144; refine (hcm _).mono ?_; rintro e w' ⟨rfl, hb⟩; obtain ⟨S1, ⟨⟨-, -, t2, -⟩, -⟩, ⟨x0, x1, x2⟩, p0, p1, p2⟩ := HSB.out _ w' (by assumption) hb; clear hb))
                  all_goals
                    have I3 := Lib.hid (I2.out.go S1)
                    go_wp2_with (at_mapUpdate; refine wp_seen_put rfl _ _ _ rfl L (i + 1) (w.heap.size + 1) X.k (by rw [← HX.out]) hlt rfl rfl rfl I3.out.2.1 HKS.out (by unfold maxLen; omega) ?_; intro w4 hs4 hg4)
                    have I4 := Lib.hid (I3.out.put hs4 hg4)
                    clear hs4 hg4
                    go_wp2
                    exact ⟨⟨i + 1 + 1, by omega, by go_num, I4, HV2⟩, by simp [intOf]; omega⟩
          · have hE3 : (entE X != 0) = true := by simpa using hE
            rw [if_pos hE] at hee
            rw [hee, if_pos hE] at hv
            subst hv
            clear hE hee
            go_wp2_with (go_at_call 143; refine (hve _).mono ?_; rintro e w2 ⟨rfl, hb2⟩; have B2 := Lib.hid (bgo HB3.out hb2); clear hb2)
            go_ret
            exact ⟨rfl, B2.out⟩
        · obtain rfl : j = L.length := by omega
          have hv := HV.out
          rw [Nat.sub_self] at hv
          subst hv
          go_wp2
          go_ret
          exact ⟨rfl, HI.out.2.2⟩
end Go.Proofs.YtjibbnknliamkaaGreatDoor
namespace Go.Proofs.YtjibbnknliamkaaGreatDoor
open Go.RowKit
set_option linter.unusedVariables false
set_option linter.unusedSimpArgs false
theorem RdE.take {L : List Ent} {a : Option Addr} {n cap : Nat} {w : World} (h : RdE L (.slice a n cap) w) {i : Nat} (hi : i ≤ L.length) : RdE (L.take i) (.slice a i cap) w := by
  obtain ⟨hy, a', cap', he, h1, h2, h3⟩ := h
  simp only [Value.slice.injEq] at he
  obtain ⟨rfl, rfl, rfl⟩ := he
  have hl : (L.take i).length = i := by rw [List.length_take]; omega
  refine ⟨hy.take i, a, cap, by rw [hl], by rw [hl]; omega, h2, fun hp => ?_⟩
  rw [hl] at hp
  obtain ⟨b, off, rfl, hb, hc⟩ := h3 (by omega)
  refine ⟨b, off, rfl, hb, fun j hj => ?_⟩
  rw [hl] at hj
  have e : (L.take i).getD j Ent.z = L.getD j Ent.z := by simp [List.getD, List.getElem?_take, hj]
  rw [e]
  exact hc j (by omega)
theorem within_any (n l h : Int) (w : World) : Calls Tryz.prog 87 #[.int .i64 n, .int .i64 l, .int .i64 h] w fun e w' => e = .returned (.bool (decide (l ≤ n) && decide (n ≤ h))) ∧ w = w' := by
  go_enter Tryz.func87, Tryz.ntmps87
  go_wp2
  all_goals
    go_ret
    exact ⟨ret_bool (by first | rfl | (rw [Bool.eq_iff_iff]; simp [*] <;> omega)), rfl⟩
end Go.Proofs.YtjibbnknliamkaaGreatDoor
namespace Go.Proofs.YtjibbnknliamkaaGreatDoor
open Go.RowKit
set_option linter.unusedVariables false
set_option linter.unusedSimpArgs false
/-- A sum up to the greatest total, and whether it was cut off. -/
def tS (a b : Int) : Int := satN (nat0 a + nat0 b) 1099511627776
end Go.Proofs.YtjibbnknliamkaaGreatDoor
namespace Go.Proofs.YtjibbnknliamkaaGreatDoor
open Go.RowKit
set_option linter.unusedVariables false
set_option linter.unusedSimpArgs false
theorem OwnE.go {B : Nat} {L : List Ent} {v : Value} {w w' : World} (h : OwnE B L v w) (hb : Below w.heap.size w w') : OwnE B L v w' := h.below hb
theorem OwnE.ge {B : Nat} {L : List Ent} {g n cap : Nat} {w : World} (h : OwnE B L (.slice (some ⟨g, 0, none⟩) n cap) w) : B ≤ g := by
  rcases h.2.2 with ⟨he, _⟩ | ⟨g', cap', cur, he, hb, _⟩
  · cases he
  · simp only [Value.slice.injEq, Option.some.injEq, Addr.mk.injEq] at he
    obtain ⟨⟨rfl, _⟩, _⟩ := he
    exact hb
end Go.Proofs.YtjibbnknliamkaaGreatDoor
namespace Go.Proofs.YtjibbnknliamkaaGreatDoor
open Go.RowKit
set_option linter.unusedVariables false
set_option linter.unusedSimpArgs false
theorem OwnE.cut {B : Nat} {L : List Ent} {a : Option Addr} {n cap m : Nat} {w : World} (h : OwnE B L (.slice a n cap) w) (hm : m ≤ L.length) : OwnE B (L.take m) (.slice a m cap) w := by
  obtain ⟨hy, h1, h2⟩ := h
  have hl : (L.take m).length = m := by rw [List.length_take]; omega
  refine ⟨hy.take m, by rw [hl, cellsE_len, hl], ?_⟩
  rw [hl]
  rcases h2 with ⟨he, hn⟩ | ⟨g, cap', cur, he, hb, hg, h3, h4, h5, h6⟩
  · simp only [Value.slice.injEq] at he
    obtain ⟨rfl, rfl, rfl⟩ := he
    exact .inl ⟨by rw [show m = 0 by omega], by omega⟩
  · simp only [Value.slice.injEq] at he
    obtain ⟨rfl, rfl, rfl⟩ := he
    refine .inr ⟨g, cap, cur, rfl, hb, hg, by omega, h4, h5, ?_⟩
    rw [cellsE_take, ← h6, List.take_take, show min (m * 3) (L.length * 3) = m * 3 by omega]
end Go.Proofs.YtjibbnknliamkaaGreatDoor
