/- PVal, PFind, RVal, PIdx, InsN: in one text. -/
import Derived.Test.YtjibbnknliamkaaGreatDoorPg04
import Derived.Test.YtjibbnknliamkaaGreatDoorProg
import Derived.Test.YtjibbnknliamkaaGreatDoorPg00
import Derived.Test.YtjibbnknliamkaaGreatDoorPg03
import Derived.Test.YtjibbnknliamkaaGreatDoorPg02
import Derived.WalkKit
import Derived.ProofKit
import Derived.Handy
import Derived.Shelf.Small.Bits
import Derived.Shelf.Strconv.Itoa0
import Derived.Shelf.Bits.Mul64
import Derived.Shelf.Spec.TrailingZeros
import Derived.Lib.SliceRun
import Derived.Shelf.Abstract
namespace Go.Proofs.YtjibbnknliamkaaGreatDoor
open Go.RowKit
set_option linter.unusedVariables false
set_option linter.unusedSimpArgs false
theorem isz_any (S : Int) (w : World) (S0 : -9223372036854775808 ≤ S) (S1 : S ≤ 9223372036854775807) : Calls Tryz.prog 142 #[.int .i64 S] w fun e w' => e = .returned (.bool (decide (1 ≤ S) && decide (S ≤ 32))) ∧ w = w' := by
  go_enter Tryz.func142, Tryz.ntmps142
  go_wp2
  all_goals
    go_ret
    exact ⟨ret_bool (by first | rfl | (rw [Bool.eq_iff_iff]; simp [*] <;> omega)), rfl⟩
theorem vent_any (x : Ent) (w : World) (hx : x.ok) : Calls Tryz.prog 143 #[.agg #[.string x.k, .int .i64 x.c, .int .i64 x.e]] w fun e w' => e = .returned (.int .i64 (entE x)) ∧ Below w.heap.size w w' := by
  have hk := fun w => isKey_any x.k w hx.1
  obtain ⟨-, ⟨c0, c1⟩, e0, e1⟩ := hx
  unfold entE
  generalize keyB (byt x.k) = K at *
  obtain ⟨k, c, e⟩ := x
  dsimp only at *
  cases K
  all_goals
    go_enter Tryz.func143, Tryz.ntmps143
    go_wp2_with (go_at_call 26; refine (hk _).mono ?_; rintro e w' ⟨rfl, rfl⟩)
    all_goals
      go_ret
      exact ⟨ret_int (by first | rfl | (simp [*] <;> omega)), b1 _⟩
/-- The state of Validate at entry j. -/
def ValS (W : World) (S T : Int) (v : Value) (s : Bool) (L : List Ent) (j : Nat) (w : World) : Prop :=
  TopS W.heap.size S T v s w ∧ SeenM L j (W.heap.size + 1) w ∧ Below W.heap.size W w
theorem ValS.rd {W : World} {S T : Int} {v : Value} {s : Bool} {L : List Ent} {j : Nat} {w : World} (h : ValS W S T v s L j w) (hr : RdE L v W) : RdE L v w := hr.below h.2.2
theorem ValS.go {W : World} {S T : Int} {v : Value} {s : Bool} {L : List Ent} {j : Nat} {w w' : World} (h : ValS W S T v s L j w) (hb : Below w.heap.size w w') : ValS W S T v s L j w' :=
  ⟨h.1.below hb h.1.lt, h.2.1.below hb, bgo h.2.2 hb⟩
theorem ValS.put {W : World} {S T : Int} {v : Value} {s : Bool} {L : List Ent} {j : Nat} {w w' : World} (h : ValS W S T v s L j w) (hm : SeenM L (j + 1) (W.heap.size + 1) w') (hg : w.grownBy w' (some (W.heap.size + 1))) : ValS W S T v s L (j + 1) w' :=
  ⟨h.1.keep (hg.block _ h.1.lt (by intro e; injection e with e; omega)), hm, h.2.2.grown hg h.2.2.size (fun k hk => by cases hk; omega)⟩
set_option maxRecDepth 100000 in
set_option maxHeartbeats 4000000 in
theorem pval_any (S T : Int) (L : List Ent) (s : Bool) (a : Option Addr) (n cap : Nat) (w : World) (S0 : -9223372036854775808 ≤ S) (S1 : S ≤ 9223372036854775807) (T0 : -9223372036854775808 ≤ T) (T1 : T ≤ 9223372036854775807) (hr : RdE L (.slice a n cap) w) (hn : L.length ≤ 549755813888) :
    Calls Tryz.prog 108 #[.agg #[.int .i64 S, .int .i64 T, .slice a n cap, .bool s]] w fun e w' => e = .returned (.int .i64 (valE S T L)) ∧ Below w.heap.size w w' := by
  have hz := fun w => isz_any S w S0 S1
  obtain ⟨a', cap', he⟩ := hr.shape
  simp only [Value.slice.injEq] at he
  obtain ⟨rfl, rfl, rfl⟩ := he
  have hy := hr.1
  have HR := Lib.hid hr
  clear hr
  unfold valE
  by_cases hp : S < 1 ∨ 32 < S ∨ T < 0 ∨ 1099511627776 < T
  · rw [if_pos hp]
    by_cases hs : S < 1 ∨ 32 < S
    · rw [show (decide (1 ≤ S) && decide (S ≤ 32)) = false by rw [Bool.and_eq_false_iff]; simp; omega] at hz
      clear hs hp
      go_enter Tryz.func108, Tryz.ntmps108
      go_wp2_with (go_at_call 142; refine (hz _).mono ?_; rintro e w' ⟨rfl, rfl⟩)
      go_ret
      exact ⟨rfl, b1 _⟩
    · rw [show (decide (1 ≤ S) && decide (S ≤ 32)) = true by simp; omega] at hz
      have hT : T < 0 ∨ (0 ≤ T ∧ 1099511627776 < T) := by omega
      clear hs hp
      rcases hT with hT | ⟨hT, hT2⟩
      all_goals
        go_enter Tryz.func108, Tryz.ntmps108
        go_wp2_with (go_at_call 142; refine (hz _).mono ?_; rintro e w' ⟨rfl, rfl⟩)
        go_ret
        exact ⟨rfl, b1 _⟩
  · rw [if_neg hp]
    rw [show (decide (1 ≤ S) && decide (S ≤ 32)) = true by simp; omega] at hz
    have hT : 0 ≤ T := by omega
    have hT2 : T ≤ 1099511627776 := by omega
    clear hp
    by_cases hl : S < L.length
    · rw [if_pos hl]
      go_enter Tryz.func108, Tryz.ntmps108
      go_wp2_with (go_at_call 142; refine (hz _).mono ?_; rintro e w' ⟨rfl, rfl⟩)
      go_ret
      exact ⟨rfl, b1 _⟩
    · rw [if_neg hl]
      have hl2 : (L.length : Int) ≤ S := by omega
      clear hl
      obtain ⟨V, hV⟩ : ∃ V, V = vgo L L.length 0 := ⟨_, rfl⟩
      rw [← hV]
      have HV := Lib.hid hV
      clear hV
      have HS0 : Hid (ValS w S T (.slice a L.length cap) s L 0 ((w.alloc (.cells #[.int .i64 S, .int .i64 T, .slice a L.length cap, .bool s] 41)).alloc (.map #[] 0))) := Lib.hid ⟨(TopS.new S T (.slice a L.length cap) s 41 w).below (b1 _) (by simp), (by have := SeenM.new L (w.alloc (.cells #[.int .i64 S, .int .i64 T, .slice a L.length cap, .bool s] 41)); simpa using this), b2 _ _⟩
      have hmm := @run_makeMap Tryz.prog
      have d0 : decide (T < 0) = false := decide_eq_false (by omega)
      have d1 : decide (1099511627776 < T) = false := decide_eq_false (by omega)
      have d2 : decide (S < (L.length : Int)) = false := decide_eq_false (by omega)
      clear hT hT2 hl2
      go_enter Tryz.func108, Tryz.ntmps108
      go_wp2_with (go_at_call 142; refine (hz _).mono ?_; rintro e w' ⟨rfl, rfl⟩)
      clear hz hmm
      go_loopw [4, 5, 6, 31] (fun _ _ _ i wr => ∃ j : Nat, j ≤ L.length ∧ i = .int .i64 (j : Int) ∧ Hid (ValS w S T (.slice a L.length cap) s L j wr) ∧ Hid (vgo L (L.length - j) j = V)) (fun _ _ _ i _ => L.length - (intOf i).toNat)
      case atStart => exact ⟨0, by omega, rfl, HS0, Lib.hid (by rw [Nat.sub_zero]; exact HV.out.symm)⟩
      case round =>
        clear HS0 HV
        obtain ⟨j, hj, rfl, HI, HV⟩ := hrel
        by_cases hlt : j < L.length
        · have hlt2 : (j : Int) < (L.length : Int) := by omega
          have hv := HV.out
          rw [show L.length - j = (L.length - (j + 1)) + 1 by omega] at hv
          unfold vgo at hv
          obtain ⟨-, a1, cap1, he1, -, -, hc1⟩ := HI.out.rd HR.out
          simp only [Value.slice.injEq, true_and] at he1
          obtain ⟨rfl, rfl⟩ := he1
          obtain ⟨b, off, rfl, hb, hcell⟩ := hc1 (by omega)
          obtain ⟨c0, c1, c2⟩ := hcell j hlt
          have HCELL := Lib.hid hcell
          clear hc1 hcell
          have hx := hy.at_ j
          have hee : errAt L j = errAt L j := rfl
          conv at hee => rhs; unfold errAt
          have hve := fun w => vent_any (L.getD j Ent.z) w hx
          have HXk : Hid ((L.getD j Ent.z).k = (L.getD j Ent.z).k) := Lib.hid rfl
          obtain ⟨X, hX⟩ : ∃ X, X = L.getD j Ent.z := ⟨_, rfl⟩
          rw [← hX] at hve hx c0 c1 c2 hee
          have HX := Lib.hid hX
          clear hX HXk
          have HKS := Lib.hid hx.1
          obtain ⟨hE1, hE2⟩ : -9223372036854775808 ≤ entE X ∧ entE X ≤ 9223372036854775807 := by rcases entE_cases X with h | h | h <;> rw [h] <;> decide
          have HB3 := Lib.hid (bal (HI.out.2.2) (.cells #[.string X.k, .int .i64 X.c, .int .i64 X.e] 64))
          have HI3 := Lib.hid (HI.out.go (b1 (.cells #[.string X.k, .int .i64 X.c, .int .i64 X.e] 64)))
          have HCE : Hid ((wr.alloc (.cells #[.string X.k, .int .i64 X.c, .int .i64 X.e] 64)).cell? ⟨wr.heap.size, 0, none⟩ = some (.string X.k)) := Lib.hid (by go_simp)
          by_cases hE : entE X = 0
          · rw [if_neg (by simpa using hE)] at hee
            rw [hE] at hve
            clear hE1 hE2 hE
            cases hH : hasK (L.take j) X.k with
            | true =>
              rw [if_pos hH] at hee
              rw [hee, if_pos (by decide)] at hv
              subst hv
              go_wp2_with (first
                | (go_at_call 143; refine (hve _).mono ?_; rintro e w2 ⟨rfl, hb2⟩; have B2 := Lib.hid (bgo HB3.out hb2); have I2 := Lib.hid (HI3.out.go hb2); have hce := HCE.out; rw [← hb2.cell (p := ⟨wr.heap.size, 0, none⟩) (by simp)] at hce; clear hb2)
                | (at_lookup; refine wp_seen_look rfl _ _ rfl L j (w.heap.size + 1) X.k rfl rfl I2.out.2.1 HKS.out ?_; rw [hH]))
              go_ret
              exact ⟨rfl, B2.out⟩
            | false =>
              rw [if_neg (by rw [hH]; simp)] at hee
              have HAX : Hid (At3 X wr.heap.size 0 (wr.alloc (.cells #[.string X.k, .int .i64 X.c, .int .i64 X.e] 64))) := Lib.hid ⟨by go_simp, by go_simp, by go_simp⟩
              by_cases hj0 : j = 0
              · rw [if_neg (by omega)] at hee
                rw [hee, if_neg (by decide)] at hv
                have HV2 := Lib.hid hv
                clear hv hee
                subst hj0
                simp only [Nat.zero_mul, Nat.add_zero] at c0 c1 c2
                go_wp2_with (first
                  | (go_at_call 143; refine (hve _).mono ?_; rintro e w2 ⟨rfl, hb2⟩; have B2 := Lib.hid (bgo HB3.out hb2); have I2 := Lib.hid (HI3.out.go hb2); have hce := HCE.out; rw [← hb2.cell (p := ⟨wr.heap.size, 0, none⟩) (by simp)] at hce; clear hb2)
                  | (at_lookup; refine wp_seen_look rfl _ _ rfl L 0 (w.heap.size + 1) X.k rfl rfl I2.out.2.1 HKS.out ?_; rw [hH]))
                simp only [Act.put, List.setIfInBounds_toArray, List.set_cons_zero, List.set_cons_succ]
                go_quiet (fail)
                go_wp2_with (at_mapUpdate; refine wp_seen_put rfl _ _ _ rfl L 0 (w.heap.size + 1) X.k (by rw [← HX.out]) hlt rfl rfl rfl (I2.out.go (below_drewN (Below.refl _ _) _)).2.1 HKS.out (by decide) ?_; intro w4 hs4 hg4)
                have I4 := Lib.hid ((I2.out.go (below_drewN (Below.refl _ _) _)).put hs4 hg4)
                clear hs4 hg4
                go_wp2
                exact ⟨⟨1, by omega, rfl, I4, Lib.hid (by simpa using HV2.out)⟩, by simp [intOf]; omega⟩
              · obtain ⟨i, rfl⟩ : ∃ i : Nat, j = i + 1 := ⟨j - 1, by omega⟩
                have hee2 : errAt L (i + 1) = if bef (L.getD i Ent.z) X = false then 19 else 0 := by
                  rw [hee, Nat.add_sub_cancel]
                  simp
                have hq2 : (i : Int) < (L.length : Int) := by omega
                have hq3 : (0 : Int) ≤ (i : Int) := by omega
                have hq4 : (0 : Int) ≤ (i : Int) + 1 := by omega
                have hq5 : IntKind.i64.wrap ((i : Int) + 1 - 1) = (i : Int) := by rw [IntKind.wrap_i64]; omega
                have hq7 : wrap64 ((i : Int) + 1 - 1) = (i : Int) := by unfold wrap64; omega
                have hq8 : IntKind.i64.wrap (i : Int) = (i : Int) := by rw [IntKind.wrap_i64]; omega
                have hq6 : (0 : Int) < (i : Int) + 1 := by omega
                have hA3 := HCELL.out i (by omega)
                have HPB : Hid (b < (wr.alloc (.cells #[.string X.k, .int .i64 X.c, .int .i64 X.e] 64)).heap.size) := Lib.hid (by simp; omega)
                have HP3 := Lib.hid (hA3.below (b1 (.cells #[.string X.k, .int .i64 X.c, .int .i64 X.e] 64)) hb)
                have hcm := fun w => compare_any (L.getD i Ent.z) X w
                have hcd := cmpE_bd (L.getD i Ent.z) X
                have hcb := cmpE_bef (L.getD i Ent.z) X
                clear hee hj0 hA3 hy
                generalize L.getD i Ent.z = P at *
                generalize cmpE P X = r at *
                cases hbe : bef P X with
                | false =>
                  have hr : ¬ r < 0 := by rw [hbe] at hcb; exact of_decide_eq_false hcb
                  have hr2 : 0 ≤ r := by omega
                  rw [hee2, hbe, if_pos rfl, if_pos (by decide)] at hv
                  subst hv
                  clear hee2 hcb hbe
                  go_wp2_with (first
                    | (go_at_call 143; refine (hve _).mono ?_; rintro e w2 ⟨rfl, hb2⟩; have HB2 := Lib.hid hb2; have I2 := Lib.hid (HI3.out.go hb2); obtain ⟨x0, x1, x2⟩ := HAX.out.below hb2 (by simp); obtain ⟨p0, p1, p2⟩ := HP3.out.below hb2 HPB.out; obtain ⟨⟨-, -, t2, -⟩, -⟩ := I2.out.1; clear hb2)
                    | (at_lookup; refine wp_seen_look rfl _ _ rfl L (i + 1) (w.heap.size + 1) X.k rfl rfl I2.out.2.1 HKS.out ?_; rw [hH]))
                  simp only [Act.put, List.setIfInBounds_toArray, List.set_cons_zero, List.set_cons_succ]
                  have hBd : Below w2.heap.size w2 w2.drew := (Below.refl w2.heap.size w2).drew
                  have HSB : Hid (∀ w1 w' : World, Below w2.heap.size w2 w1 → Below w1.heap.size w1 w' → Below w2.heap.size w2 w' ∧ TopS w.heap.size S T (.slice (some ⟨b, off, none⟩) L.length cap) s w' ∧ At3 X wr.heap.size 0 w' ∧ At3 P b (off + i * 3) w') :=
                    Lib.hid (fun w1 w' h k => by
                      have hb := bgo h k
                      exact ⟨hb, (I2.out.go hb).1, (HAX.out.below HB2.out (by simp)).below hb (Nat.lt_of_lt_of_le (by simp) HB2.out.size), (HP3.out.below HB2.out HPB.out).below hb (Nat.lt_of_lt_of_le HPB.out HB2.out.size)⟩)
                  go_region_held3 (fun w' => Below w2.heap.size w2 w' ∧ w'.cell? ⟨w.heap.size, 2, none⟩ = some (.slice (some ⟨b, off, none⟩) L.length cap) ∧ w'.cell? ⟨wr.heap.size, 0, none⟩ = some (.string X.k) ∧ w'.cell? ⟨wr.heap.size, 1, none⟩ = some (.int .i64 X.c) ∧ w'.cell? ⟨wr.heap.size, 2, none⟩ = some (.int .i64 X.e) ∧ w'.cell? ⟨b, off + i * 3, none⟩ = some (.string P.k) ∧ w'.cell? ⟨b, off + i * 3 + 1, none⟩ = some (.int .i64 P.c) ∧ w'.cell? ⟨b, off + i * 3 + 2, none⟩ = some (.int .i64 P.e)) (go_keep)
                    (first | (go_at_call 144; refine (hcm _).mono ?_; rintro e w' ⟨rfl, hb⟩; obtain ⟨S1, ⟨⟨-, -, t2, -⟩, -⟩, ⟨x0, x1, x2⟩, p0, p1, p2⟩ := HSB.out _ w' (by assumption) hb; clear hb))
                  all_goals
                    go_wp2
                    go_ret
                    exact ⟨rfl, bgo I2.out.2.2 S1⟩
                | true =>
                  have hr : r < 0 := by rw [hbe] at hcb; exact of_decide_eq_true hcb
                  have hr2 : ¬ 0 ≤ r := by omega
                  rw [hee2, hbe, if_neg (by simp)] at hv
                  have HV2 := Lib.hid hv
                  clear hee2 hcb hbe hv
                  go_wp2_with (first
                    | (go_at_call 143; refine (hve _).mono ?_; rintro e w2 ⟨rfl, hb2⟩; have HB2 := Lib.hid hb2; have I2 := Lib.hid (HI3.out.go hb2); obtain ⟨x0, x1, x2⟩ := HAX.out.below hb2 (by simp); obtain ⟨p0, p1, p2⟩ := HP3.out.below hb2 HPB.out; obtain ⟨⟨-, -, t2, -⟩, -⟩ := I2.out.1; clear hb2)
                    | (at_lookup; refine wp_seen_look rfl _ _ rfl L (i + 1) (w.heap.size + 1) X.k rfl rfl I2.out.2.1 HKS.out ?_; rw [hH]))
                  simp only [Act.put, List.setIfInBounds_toArray, List.set_cons_zero, List.set_cons_succ]
                  have hBd : Below w2.heap.size w2 w2.drew := (Below.refl w2.heap.size w2).drew
                  have HSB : Hid (∀ w1 w' : World, Below w2.heap.size w2 w1 → Below w1.heap.size w1 w' → Below w2.heap.size w2 w' ∧ TopS w.heap.size S T (.slice (some ⟨b, off, none⟩) L.length cap) s w' ∧ At3 X wr.heap.size 0 w' ∧ At3 P b (off + i * 3) w') :=
                    Lib.hid (fun w1 w' h k => by
                      have hb := bgo h k
                      exact ⟨hb, (I2.out.go hb).1, (HAX.out.below HB2.out (by simp)).below hb (Nat.lt_of_lt_of_le (by simp) HB2.out.size), (HP3.out.below HB2.out HPB.out).below hb (Nat.lt_of_lt_of_le HPB.out HB2.out.size)⟩)
                  go_region_held3 (fun w' => Below w2.heap.size w2 w' ∧ w'.cell? ⟨w.heap.size, 2, none⟩ = some (.slice (some ⟨b, off, none⟩) L.length cap) ∧ w'.cell? ⟨wr.heap.size, 0, none⟩ = some (.string X.k) ∧ w'.cell? ⟨wr.heap.size, 1, none⟩ = some (.int .i64 X.c) ∧ w'.cell? ⟨wr.heap.size, 2, none⟩ = some (.int .i64 X.e) ∧ w'.cell? ⟨b, off + i * 3, none⟩ = some (.string P.k) ∧ w'.cell? ⟨b, off + i * 3 + 1, none⟩ = some (.int .i64 P.c) ∧ w'.cell? ⟨b, off + i * 3 + 2, none⟩ = some (.int .i64 P.e)) (go_keep)
                    (first | (go_at_call 144; refine (hcm _).mono ?_; rintro e w' ⟨rfl, hb⟩; obtain ⟨S1, ⟨⟨-, -, t2, -⟩, -⟩, ⟨x0, x1, x2⟩, p0, p1, p2⟩ := HSB.out _ w' (by assumption) hb; clear hb))
                  all_goals
                    have I3 := Lib.hid (I2.out.go S1)
                    go_wp2_with (at_mapUpdate; refine wp_seen_put rfl _ _ _ rfl L (i + 1) (w.heap.size + 1) X.k (by rw [← HX.out]) hlt rfl rfl rfl I3.out.2.1 HKS.out (by unfold maxLen; omega) ?_; intro w4 hs4 hg4)
                    have I4 := Lib.hid (I3.out.put hs4 hg4)
                    clear hs4 hg4
                    go_wp2
                    exact ⟨⟨i + 1 + 1, by omega, by go_num, I4, HV2⟩, by simp [intOf]; omega⟩
          · have hE3 : (entE X != 0) = true := by simpa using hE
            rw [if_pos hE] at hee
            rw [hee, if_pos hE] at hv
            subst hv
            clear hE hee
            go_wp2_with (go_at_call 143; refine (hve _).mono ?_; rintro e w2 ⟨rfl, hb2⟩; have B2 := Lib.hid (bgo HB3.out hb2); clear hb2)
            go_ret
            exact ⟨rfl, B2.out⟩
        · obtain rfl : j = L.length := by omega
          have hv := HV.out
          rw [Nat.sub_self] at hv
          subst hv
          go_wp2
          go_ret
          exact ⟨rfl, HI.out.2.2⟩
end Go.Proofs.YtjibbnknliamkaaGreatDoor
namespace Go.Proofs.YtjibbnknliamkaaGreatDoor
open Go.RowKit
set_option linter.unusedVariables false
set_option linter.unusedSimpArgs false
def leastI (S : Int) (L : List Ent) : Int := if L.length = 0 ∨ (L.length : Int) ≠ S then 0 else (L.getD (L.length - 1) Ent.z).c
set_option maxRecDepth 100000 in
set_option maxHeartbeats 1000000 in
theorem rleast_any (S T : Int) (L : List Ent) (s : Bool) (a : Option Addr) (n cap : Nat) (w : World) (hr : RdE L (.slice a n cap) w) (hn : L.length ≤ 549755813888) :
    Calls Tryz.prog 84 #[.agg #[.int .i64 S, .int .i64 T, .slice a n cap, .bool s]] w fun e w' => e = .returned (.int .i64 (leastI S L)) ∧ Below w.heap.size w w' := by
  have hB := RdE.below hr (b1 (.cells #[.int .i64 S, .int .i64 T, .slice a n cap, .bool s] 41))
  obtain ⟨a', cap', he⟩ := hr.shape
  simp only [Value.slice.injEq] at he
  obtain ⟨rfl, rfl, rfl⟩ := he
  unfold leastI
  by_cases h0 : L.length = 0
  · rw [if_pos (.inl h0)]
    have h1 : ((L.length : Int) == 0) = true := by simp [h0]
    clear hB hr hn h0
    generalize L.length = N at *
    go_enter Tryz.func84, Tryz.ntmps84
    go_wp2
    go_ret
    exact ⟨rfl, b1 _⟩
  · have h1 : ((L.length : Int) == 0) = false := by simp only [beq_eq_false_iff_ne]; omega
    by_cases hS : (L.length : Int) = S
    · rw [if_neg (by omega)]
      subst hS
      obtain ⟨-, a1, cap1, he1, -, -, hc1⟩ := hr
      simp only [Value.slice.injEq, true_and] at he1
      obtain ⟨rfl, rfl⟩ := he1
      obtain ⟨b, off, rfl, hb, hcell⟩ := hc1 (by omega)
      have h3 := hcell (L.length - 1) (by omega)
      generalize L.getD (L.length - 1) Ent.z = X at *
      clear hcell hc1 hB
      obtain ⟨m, hm⟩ : ∃ m, L.length = m + 1 := ⟨L.length - 1, by omega⟩
      rw [hm] at hn h1 ⊢
      rw [hm, Nat.add_sub_cancel] at h3
      obtain ⟨-, c1, -⟩ := h3.below (b1 (.cells #[.int .i64 ((m : Int) + 1), .int .i64 T, .slice (some ⟨b, off, none⟩) (m + 1) cap, .bool s] 41)) hb
      clear hm h0
      have q1 : wrap64 (((m + 1 : Nat) : Int) - 1) = (m : Int) := by unfold wrap64; omega
      have q2 : wrap64 ((m : Int) + 1 - 1) = (m : Int) := by unfold wrap64; omega
      have q3 : (m : Int) < (m : Int) + 1 := by omega
      have q4 : ((m : Int) + 1 == 0) = false := by simp only [beq_eq_false_iff_ne]; omega
      have q5 : (0 : Int) ≤ (m : Int) := by omega
      have q6 : ((m : Int) < ((m + 1 : Nat) : Int)) := by omega
      go_enter Tryz.func84, Tryz.ntmps84
      go_wp2
      go_ret
      exact ⟨rfl, b1 _⟩
    · rw [if_pos (.inr hS)]
      have h2 : ((L.length : Int) == S) = false := by simp only [beq_eq_false_iff_ne]; exact hS
      have h3 : ((L.length : Int) != S) = true := by simp [bne, h2]
      clear hB hr hn h0 hS
      generalize L.length = N at *
      go_enter Tryz.func84, Tryz.ntmps84
      go_wp2
      go_ret
      exact ⟨rfl, b1 _⟩
end Go.Proofs.YtjibbnknliamkaaGreatDoor
namespace Go.Proofs.YtjibbnknliamkaaGreatDoor
open Go.RowKit
set_option linter.unusedVariables false
set_option linter.unusedSimpArgs false
/-- The first of the m entries from i on that has key k; -1 if there is none. -/
def findFrom (L : List Ent) (k : ByteArray) : Nat → Nat → Int
  | 0, _ => -1
  | m + 1, i => if sameK (L.getD i Ent.z).k k = true then (i : Int) else findFrom L k m (i + 1)
def findI (L : List Ent) (k : ByteArray) : Int := findFrom L k L.length 0
theorem findFrom_cases (L : List Ent) (k : ByteArray) : ∀ m i, i + m = L.length → hasK (L.take i) k = false → (hasK L k = true ∧ ∃ j, j < L.length ∧ findFrom L k m i = (j : Int) ∧ sameK (L.getD j Ent.z).k k = true) ∨ (hasK L k = false ∧ findFrom L k m i = -1)
  | 0, i, h, hh => .inr ⟨by rw [show i = L.length by omega, List.take_length] at hh; exact hh, rfl⟩
  | m + 1, i, h, hh => by
    unfold findFrom
    cases hs : sameK (L.getD i Ent.z).k k with
    | true =>
      rw [if_pos rfl]
      refine .inl ⟨?_, i, by omega, rfl, hs⟩
      unfold hasK
      rw [List.any_eq_true]
      refine ⟨L[i], List.getElem_mem (by omega), ?_⟩
      have : L.getD i Ent.z = L[i] := by simp [List.getD, show i < L.length by omega]
      rw [← this]
      exact hs
    | false =>
      rw [if_neg (by simp)]
      exact findFrom_cases L k m (i + 1) (by omega) (by rw [hasK_succ (by omega), hh, hs]; rfl)
theorem findI_cases (L : List Ent) (k : ByteArray) : (hasK L k = true ∧ ∃ j, j < L.length ∧ findI L k = (j : Int) ∧ sameK (L.getD j Ent.z).k k = true) ∨ (hasK L k = false ∧ findI L k = -1) := findFrom_cases L k _ 0 (by omega) (by simp [hasK])
theorem findI_has (L : List Ent) (k : ByteArray) : decide (0 ≤ findI L k) = hasK L k := by
  rcases findI_cases L k with ⟨h, j, _, e, _⟩ | ⟨h, e⟩
  · rw [h, e]; simp
  · rw [h, e]; rfl
theorem RdE.take {L : List Ent} {a : Option Addr} {n cap : Nat} {w : World} (h : RdE L (.slice a n cap) w) {i : Nat} (hi : i ≤ L.length) : RdE (L.take i) (.slice a i cap) w := by
  obtain ⟨hy, a', cap', he, h1, h2, h3⟩ := h
  simp only [Value.slice.injEq] at he
  obtain ⟨rfl, rfl, rfl⟩ := he
  have hl : (L.take i).length = i := by rw [List.length_take]; omega
  refine ⟨hy.take i, a, cap, by rw [hl], by rw [hl]; omega, h2, fun hp => ?_⟩
  rw [hl] at hp
  obtain ⟨b, off, rfl, hb, hc⟩ := h3 (by omega)
  refine ⟨b, off, rfl, hb, fun j hj => ?_⟩
  rw [hl] at hj
  have e : (L.take i).getD j Ent.z = L.getD j Ent.z := by simp [List.getD, List.getElem?_take, hj]
  rw [e]
  exact hc j (by omega)
theorem within_any (n l h : Int) (w : World) : Calls Tryz.prog 87 #[.int .i64 n, .int .i64 l, .int .i64 h] w fun e w' => e = .returned (.bool (decide (l ≤ n) && decide (n ≤ h))) ∧ w = w' := by
  go_enter Tryz.func87, Tryz.ntmps87
  go_wp2
  all_goals
    go_ret
    exact ⟨ret_bool (by first | rfl | (rw [Bool.eq_iff_iff]; simp [*] <;> omega)), rfl⟩
set_option maxRecDepth 100000 in
set_option maxHeartbeats 1000000 in
theorem rfind_any (L : List Ent) (k : ByteArray) (a : Option Addr) (n cap : Nat) (w : World) (hr : RdE L (.slice a n cap) w) (hn : L.length ≤ 549755813888) :
    Calls Tryz.prog 83 #[.slice a n cap, .string k] w fun e w' => e = .returned (.int .i64 (findI L k)) ∧ w = w' := by
  obtain ⟨a', cap', he⟩ := hr.shape
  simp only [Value.slice.injEq] at he
  obtain ⟨rfl, rfl, rfl⟩ := he
  have HR := Lib.hid hr
  clear hr
  obtain ⟨V, hV⟩ : ∃ V, V = findI L k := ⟨_, rfl⟩
  rw [← hV]
  have HV := Lib.hid hV
  clear hV
  go_enter Tryz.func83, Tryz.ntmps83
  go_wp2
  go_loop [5] (fun i => ∃ j : Nat, j ≤ L.length ∧ i = .int .i64 (j : Int) ∧ Hid (findFrom L k (L.length - j) j = V)) (fun i => L.length - (intOf i).toNat)
  case atStart => exact ⟨0, by omega, rfl, Lib.hid (by rw [Nat.sub_zero]; exact HV.out.symm)⟩
  case round =>
    clear HV
    obtain ⟨j, hj, rfl, HV⟩ := hrel
    by_cases hlt : j < L.length
    · have hlt2 : (j : Int) < (L.length : Int) := by omega
      have hv := HV.out
      rw [show L.length - j = (L.length - (j + 1)) + 1 by omega] at hv
      unfold findFrom at hv
      obtain ⟨-, a1, cap1, he1, -, -, hc1⟩ := HR.out
      simp only [Value.slice.injEq, true_and] at he1
      obtain ⟨rfl, rfl⟩ := he1
      obtain ⟨b, off, rfl, hb, hcell⟩ := hc1 (by omega)
      obtain ⟨c0, c1, c2⟩ := hcell j hlt
      clear hc1 hcell c1 c2
      generalize L.getD j Ent.z = X at *
      cases hs : sameK X.k k with
      | true =>
        rw [hs, if_pos rfl] at hv
        subst hv
        have hs2 : (X.k.toList == k.toList) = true := hs
        clear hs
        go_wp2
        go_ret
        exact ⟨rfl, rfl⟩
      | false =>
        rw [hs, if_neg (by simp)] at hv
        have HV2 := Lib.hid hv
        have hs2 : (X.k.toList == k.toList) = false := hs
        clear hs hv
        go_wp2
        go_round
        case rel => exact ⟨j + 1, by omega, by go_num, HV2⟩
        case measure => simp [intOf]; omega
    · obtain rfl : j = L.length := by omega
      have hv := HV.out
      rw [Nat.sub_self] at hv
      subst hv
      go_wp2
      go_ret
      exact ⟨rfl, rfl⟩
end Go.Proofs.YtjibbnknliamkaaGreatDoor
namespace Go.Proofs.YtjibbnknliamkaaGreatDoor
open Go.RowKit
set_option linter.unusedVariables false
set_option linter.unusedSimpArgs false
/-- A sum up to the greatest total, and whether it was cut off. -/
def tS (a b : Int) : Int := satN (nat0 a + nat0 b) 1099511627776
def tF_2 (a b : Int) : Bool := satF (nat0 a + nat0 b) 1099511627776
theorem tS_bd (a b : Int) : 0 ≤ tS a b ∧ tS a b ≤ 1099511627776 := by unfold tS satN nat0; split <;> omega
set_option maxRecDepth 100000 in
theorem rsum_any_2 (a b : Int) (w : World) (a0 : -9223372036854775808 ≤ a) (a1 : a ≤ 9223372036854775807) (b0 : -9223372036854775808 ≤ b) (b1 : b ≤ 9223372036854775807) :
    Calls Tryz.prog 98 #[.int .i64 a, .int .i64 b] w fun e w' => e = .returned (.tuple #[.int .i64 (tS a b), .bool (tF_2 a b)]) ∧ w = w' := by
  have h : ∀ w, Calls Tryz.prog 96 #[.int .i64 a, .int .i64 b, .int .i64 1099511627776] w fun e w' => e = .returned (.tuple #[.int .i64 (tS a b), .bool (tF_2 a b)]) ∧ w = w' := fun w => ref_add_any a b 1099511627776 w a0 a1 b0 b1 (by decide) (by decide)
  generalize tS a b = A at *
  generalize tF_2 a b = F at *
  go_enter Tryz.func98, Tryz.ntmps98
  go_wp2_with (go_at_call 96; refine (h _).mono ?_; rintro e w' ⟨rfl, rfl⟩)
  go_ret2
  exact ⟨rfl, rfl⟩
/-- An entry whose error stays below its count. -/
def entOf (k : ByteArray) (c e : Int) : Ent := ⟨k, c, min e (c - 1)⟩
theorem entOf_ok {k : ByteArray} {c e : Int} (hk : k.size ≤ maxLen) (c0 : -9223372036854775808 < c) (c1 : c ≤ 9223372036854775807) (e0 : -9223372036854775808 ≤ e) (e1 : e ≤ 9223372036854775807) : (entOf k c e).ok := ⟨hk, by unfold entOf; dsimp only; omega, by unfold entOf; dsimp only; omega⟩
/-- A key that has one entry alone. -/
def OneL (L : List Ent) : Prop := ∀ i, i < L.length → hasK (L.take i) (L.getD i Ent.z).k = false
theorem hasK_of {L : List Ent} {i j : Nat} {k : ByteArray} (hij : i < j) (hj : j ≤ L.length) (h : sameK (L.getD i Ent.z).k k = true) : hasK (L.take j) k = true := by
  unfold hasK
  rw [List.any_eq_true]
  have hi : i < L.length := by omega
  refine ⟨L.getD i Ent.z, ?_, h⟩
  have e : L.getD i Ent.z = L[i] := by simp [List.getD, hi]
  rw [e, List.mem_take_iff_getElem]
  exact ⟨i, by omega, rfl⟩
theorem OneL.inj {L : List Ent} (h : OneL L) {i j : Nat} {k : ByteArray} (hi : i < L.length) (hj : j < L.length) (h1 : sameK (L.getD i Ent.z).k k = true) (h2 : sameK (L.getD j Ent.z).k k = true) : i = j := by
  have e1 := (sameK_iff _ _).1 h1
  have e2 := (sameK_iff _ _).1 h2
  rcases Nat.lt_trichotomy i j with hlt | he | hlt
  · have := hasK_of hlt (Nat.le_of_lt hj) h1
    have h3 := h j hj
    rw [e2, this] at h3
    cases h3
  · exact he
  · have := hasK_of hlt (Nat.le_of_lt hi) h2
    have h3 := h i hi
    rw [e1, this] at h3
    cases h3
/-- The entry of a key, or the bounds of a key without one. -/
def entAt (L : List Ent) (k : ByteArray) (l : Int) : Ent := if hasK L k = true then L.getD (findI L k).toNat Ent.z else ⟨k, l, l⟩
end Go.Proofs.YtjibbnknliamkaaGreatDoor
namespace Go.Proofs.YtjibbnknliamkaaGreatDoor
open Go.RowKit
set_option linter.unusedVariables false
set_option linter.unusedSimpArgs false
def insA (S : Int) (L : List Ent) (k : ByteArray) (x : Int) : List Ent :=
  if hasK L k = true then L.set (findI L k).toNat ⟨(L.getD (findI L k).toNat Ent.z).k, tS (L.getD (findI L k).toNat Ent.z).c x, (L.getD (findI L k).toNat Ent.z).e⟩
  else L.take (min L.length (S - 1).toNat) ++ [entOf k (tS (leastI S L) x) (leastI S L)]
def insF (S : Int) (L : List Ent) (k : ByteArray) (x : Int) : Bool := if hasK L k = true then tF_2 (L.getD (findI L k).toNat Ent.z).c x else tF_2 (leastI S L) x
def insE (t : TP) (k : ByteArray) (x : Int) : Int := if valE t.S t.T t.L ≠ 0 then valE t.S t.T t.L else itemE (byt k) x
def insTop (t : TP) (k : ByteArray) (x : Int) : TP :=
  if valE t.S t.T t.L ≠ 0 then TP.none else if itemE (byt k) x ≠ 0 then TP.none else ⟨t.S, tS t.T x, sortE (insA t.S t.L k x), t.s || insF t.S t.L k x || tF_2 t.T x⟩
/-- A struct of two cells in memory: an item. -/
def Itm_2 (g : Nat) (k : ByteArray) (x : Int) (w : World) : Prop := w.cell? ⟨g, 0, none⟩ = some (.string k) ∧ w.cell? ⟨g, 1, none⟩ = some (.int .i64 x)
theorem Itm_2.keep {g : Nat} {k : ByteArray} {x : Int} {w w' : World} (h : Itm_2 g k x w) (hb : w'.heap[g]? = w.heap[g]?) : Itm_2 g k x w' :=
  ⟨(World.cell?_of_block (w := w) (a := ⟨g, 0, none⟩) hb).trans h.1, (World.cell?_of_block (w := w) (a := ⟨g, 1, none⟩) hb).trans h.2⟩
/-- The three structs of an insertion. -/
def Mem3 (W : World) (S T : Int) (v : Value) (s : Bool) (k : ByteArray) (x : Int) (w : World) : Prop :=
  TopS W.heap.size S T v s w ∧ Itm_2 (W.heap.size + 1) k x w ∧ TopS (W.heap.size + 2) 0 0 (.slice none 0 0) false w ∧ Below W.heap.size W w
theorem Mem3.lt {W : World} {S T : Int} {v : Value} {s : Bool} {k : ByteArray} {x : Int} {w : World} (h : Mem3 W S T v s k x w) : W.heap.size + 2 < w.heap.size := h.2.2.1.lt
theorem Mem3.keep {W : World} {S T : Int} {v : Value} {s : Bool} {k : ByteArray} {x : Int} {w w' : World} (h : Mem3 W S T v s k x w) (hb : Below (W.heap.size + 3) w w') : Mem3 W S T v s k x w' :=
  ⟨h.1.keep (hb.block _ (by omega)), h.2.1.keep (hb.block _ (by omega)), h.2.2.1.keep (hb.block _ (by omega)), h.2.2.2.trans (hb.mono (by omega))⟩
theorem Mem3.go {W : World} {S T : Int} {v : Value} {s : Bool} {k : ByteArray} {x : Int} {w w' : World} (h : Mem3 W S T v s k x w) (hb : Below w.heap.size w w') : Mem3 W S T v s k x w' := h.keep (hb.mono (by have := h.lt; omega))
theorem Mem3.new (W : World) (S T : Int) (v : Value) (s : Bool) (k : ByteArray) (x : Int) :
    Mem3 W S T v s k x (((W.alloc (.cells #[.int .i64 S, .int .i64 T, v, .bool s] 41)).alloc (.cells #[.string k, .int .i64 x] 71)).alloc (.cells #[.int .i64 0, .int .i64 0, .slice none 0 0, .bool false] 41)) :=
  ⟨((TopS.new S T v s 41 W).below (b1 _) (by simp)).below (b1 _) (by simp; omega), ⟨by go_simp, by go_simp⟩, ⟨⟨by go_simp, by go_simp, by go_simp, by go_simp⟩, by go_simp, by go_simp, by go_simp, by go_simp⟩, b3 _ _ _⟩
theorem Mem3.cells {W : World} {S T : Int} {v : Value} {s : Bool} {k : ByteArray} {x : Int} {w : World} (h : Mem3 W S T v s k x w) :
    (w.cell? ⟨W.heap.size, 0, none⟩ = some (.int .i64 S) ∧ w.cell? ⟨W.heap.size, 1, none⟩ = some (.int .i64 T) ∧ w.cell? ⟨W.heap.size, 2, none⟩ = some v ∧ w.cell? ⟨W.heap.size, 3, none⟩ = some (.bool s)) ∧
    (w.cell? ⟨W.heap.size + 1, 0, none⟩ = some (.string k) ∧ w.cell? ⟨W.heap.size + 1, 1, none⟩ = some (.int .i64 x)) ∧
    (w.cell? ⟨W.heap.size + 2, 0, none⟩ = some (.int .i64 0) ∧ w.cell? ⟨W.heap.size + 2, 1, none⟩ = some (.int .i64 0) ∧ w.cell? ⟨W.heap.size + 2, 2, none⟩ = some (.slice none 0 0) ∧ w.cell? ⟨W.heap.size + 2, 3, none⟩ = some (.bool false)) ∧
    (w.frozen? ⟨W.heap.size + 2, 0, none⟩ = false ∧ w.frozen? ⟨W.heap.size + 2, 1, none⟩ = false ∧ w.frozen? ⟨W.heap.size + 2, 2, none⟩ = false ∧ w.frozen? ⟨W.heap.size + 2, 3, none⟩ = false) :=
  ⟨h.1.1, h.2.1, h.2.2.1.1, h.2.2.1.2⟩
theorem Valid.small {S T : Int} {L : List Ent} (h : Valid S T L) : L.length ≤ 32 := by have := h.len; have := h.s1; omega
theorem OwnE.cut {B : Nat} {L : List Ent} {a : Option Addr} {n cap m : Nat} {w : World} (h : OwnE B L (.slice a n cap) w) (hm : m ≤ L.length) : OwnE B (L.take m) (.slice a m cap) w := by
  obtain ⟨hy, h1, h2⟩ := h
  have hl : (L.take m).length = m := by rw [List.length_take]; omega
  refine ⟨hy.take m, by rw [hl, cellsE_len, hl], ?_⟩
  rw [hl]
  rcases h2 with ⟨he, hn⟩ | ⟨g, cap', cur, he, hb, hg, h3, h4, h5, h6⟩
  · simp only [Value.slice.injEq] at he
    obtain ⟨rfl, rfl, rfl⟩ := he
    exact .inl ⟨by rw [show m = 0 by omega], by omega⟩
  · simp only [Value.slice.injEq] at he
    obtain ⟨rfl, rfl, rfl⟩ := he
    refine .inr ⟨g, cap, cur, rfl, hb, hg, by omega, h4, h5, ?_⟩
    rw [cellsE_take, ← h6, List.take_take, show min (m * 3) (L.length * 3) = m * 3 by omega]
theorem item_one {k : List Int} {x : Int} (h : itemE k x = 0) : 1 ≤ x := by
  unfold itemE at h
  split at h
  · cases h
  · split at h
    · cases h
    · omega
end Go.Proofs.YtjibbnknliamkaaGreatDoor
