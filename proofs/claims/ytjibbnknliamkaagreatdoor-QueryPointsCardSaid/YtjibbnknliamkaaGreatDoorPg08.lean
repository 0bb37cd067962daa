/- Base, Meet, SameI, CmSame, RValT, MeetV: in one text. -/
import Derived.Test.YtjibbnknliamkaaGreatDoorPg07
import Derived.Test.YtjibbnknliamkaaGreatDoorPg00
import Derived.Test.YtjibbnknliamkaaGreatDoorPg02
import Derived.Test.YtjibbnknliamkaaGreatDoorPg03
import Derived.Test.YtjibbnknliamkaaGreatDoorPg01
import Derived.Test.YtjibbnknliamkaaGreatDoorPg04
import Derived.Test.YtjibbnknliamkaaGreatDoorPg05
namespace Go.Proofs.YtjibbnknliamkaaGreatDoor
open Go.RowKit
set_option linter.unusedVariables false
set_option linter.unusedSimpArgs false
/-- The weight of the item of a number. -/
def wtS (n : Int) : Int := if n / 4096 % 16 = 14 then 1 + n % 65536 * 65537 % 4294967295 else if n / 4096 % 16 = 15 then 4294967295 - n % 4 else 1 + n / 16 % 8
theorem wtS_bd (n : Int) : 1 ≤ wtS n ∧ wtS n ≤ 4294967295 := by
  unfold wtS
  split
  · omega
  · split <;> omega
theorem mask2 (n : Int) : bits .and .i64 n 3 = n % 4 := i64_mask 2 (by decide) n
theorem mask3 (n : Int) : bits .and .i64 n 7 = n % 8 := i64_mask 3 (by decide) n
theorem mask16 (n : Int) : bits .and .i64 n 65535 = n % 65536 := i64_mask 16 (by decide) n
set_option maxRecDepth 100000 in
set_option maxHeartbeats 1000000 in
theorem bitem_any (n : Int) (w : World) (n0 : -9223372036854775808 ≤ n) (n1 : n ≤ 9223372036854775807) :
    Calls Tryz.prog 62 #[.int .i64 n] w fun e w' => e = .returned (.agg #[.string (keyS n), .int .i64 (wtS n)]) ∧ Below w.heap.size w w' := by
  have hk := fun w => key_any n w n0 n1
  have m1 := mask3 (n / 16)
  have m2 := mask4 (n / 4096)
  have m3 := mask16 n
  have m4 := mask2 n
  generalize keyS n = K at *
  unfold wtS
  have e0 : 0 ≤ n / 16 % 8 := by omega
  have e1 : n / 16 % 8 ≤ 7 := by omega
  have e2 : 0 ≤ n / 4096 % 16 := by omega
  have e3 : n / 4096 % 16 ≤ 15 := by omega
  have e4 : 0 ≤ n % 65536 := by omega
  have e5 : n % 65536 ≤ 65535 := by omega
  have e6 : 0 ≤ n % 4 := by omega
  have e7 : n % 4 ≤ 3 := by omega
  generalize n / 4096 % 16 = q at *
  generalize n / 16 % 8 = p at *
  generalize n % 65536 = r at *
  generalize n % 4 = s at *
  by_cases h14 : q = 14
  · subst h14
    rw [if_pos rfl]
    have e8 : 0 ≤ r * 65537 % 4294967295 := by omega
    have e9 : r * 65537 % 4294967295 ≤ 4294967294 := by omega
    go_enter Tryz.func62, Tryz.ntmps62
    go_wp2_with (go_at_call 23; refine (hk _).mono ?_; rintro e w2 ⟨rfl, hb2⟩; have B2 := bgo (b1 _) hb2; obtain ⟨hc2, hf2⟩ := bcell hb2; have hz2 : w.heap.size < w2.heap.size := (by have := hb2.size; simp at this; omega); clear hb2)
    refine bodyPost_ret (v := .agg #[.string K, .int .i64 (1 + r * 65537 % 4294967295)]) (by simp [results, Tryz.results62, go_sem, *]) rfl ⟨rfl, ?_⟩
    exact bset (bset B2 _ _ _ (by omega)) _ _ _ (by omega)
  · rw [if_neg h14]
    have g14 : (q == 14) = false := by simp [h14]
    by_cases h15 : q = 15
    · subst h15
      rw [if_pos rfl]
      go_enter Tryz.func62, Tryz.ntmps62
      go_wp2_with (go_at_call 23; refine (hk _).mono ?_; rintro e w2 ⟨rfl, hb2⟩; have B2 := bgo (b1 _) hb2; obtain ⟨hc2, hf2⟩ := bcell hb2; have hz2 : w.heap.size < w2.heap.size := (by have := hb2.size; simp at this; omega); clear hb2)
      refine bodyPost_ret (v := .agg #[.string K, .int .i64 (4294967295 - s)]) (by simp [results, Tryz.results62, go_sem, *]) rfl ⟨rfl, ?_⟩
      exact bset (bset B2 _ _ _ (by omega)) _ _ _ (by omega)
    · rw [if_neg h15]
      have g15 : (q == 15) = false := by simp [h15]
      go_enter Tryz.func62, Tryz.ntmps62
      go_wp2_with (go_at_call 23; refine (hk _).mono ?_; rintro e w2 ⟨rfl, hb2⟩; have B2 := bgo (b1 _) hb2; obtain ⟨hc2, hf2⟩ := bcell hb2; have hz2 : w.heap.size < w2.heap.size := (by have := hb2.size; simp at this; omega); clear hb2)
      refine bodyPost_ret (v := .agg #[.string K, .int .i64 (1 + p)]) (by simp [results, Tryz.results62, go_sem, *]) rfl ⟨rfl, ?_⟩
      exact bset (bset B2 _ _ _ (by omega)) _ _ _ (by omega)
end Go.Proofs.YtjibbnknliamkaaGreatDoor
namespace Go.Proofs.YtjibbnknliamkaaGreatDoor
open Go.RowKit
set_option linter.unusedVariables false
/-- An end by no jump. -/
def Plain (G : Act → World → Prop) : Exit → Act → World → Prop
  | .normal, a, w => G a w
  | _, _, _ => False
/-- The frame but for n slots from i on. -/
def OffT (i n : Nat) (a a' : Act) : Prop := ∃ us : List Value, us.length = n ∧ a' = ⟨(a.tmps.toList.take i ++ us ++ a.tmps.toList.drop (i + n)).toArray, a.defers⟩
theorem wp_meet {P : Program} {s : Code} {Q : Exit → Act → World → Prop} {a : Act} {w : World} (i n : Nat) (R : World → Prop)
    (first : ∀ G : Act → World → Prop, (∀ a' w', OffT i n a a' → R w' → G a' w') → s.wp P (Plain G) a w)
    (rest : ∀ a' w', OffT i n a a' → R w' → Q .normal a' w') : s.wp P Q a w := by
  refine wp_mono (first (fun a' w' => OffT i n a a' ∧ R w') (fun _ _ h1 h2 => ⟨h1, h2⟩)) ?_
  intro e a' w' h
  cases e with
  | normal => exact rest _ _ h.1 h.2
  | _ => exact h.elim
end Go.Proofs.YtjibbnknliamkaaGreatDoor
namespace Go.Proofs.YtjibbnknliamkaaGreatDoor
open Go.RowKit
set_option linter.unusedVariables false
set_option linter.unusedSimpArgs false
theorem RdI.cellAt {L : List Int} {a : Option Addr} {n cap : Nat} {w w' : World} (h : RdI L (.slice a n cap) w) (hb : Below w.heap.size w w') {k : Nat} (hk : k < L.length) :
    n = L.length ∧ ∃ b off, a = some ⟨b, off, none⟩ ∧ b < w.heap.size ∧ w'.cell? ⟨b, off + k, none⟩ = some (.int .i64 (L.getD k 0)) := by
  obtain ⟨hy, a', cap', he, h1, h2, h3⟩ := h
  simp only [Value.slice.injEq] at he
  obtain ⟨rfl, rfl, rfl⟩ := he
  obtain ⟨b, off, rfl, hlt, hc⟩ := h3 (by omega)
  exact ⟨rfl, b, off, rfl, hlt, (hb.cell (p := ⟨b, off + k, none⟩) hlt).trans (hc k hk)⟩
set_option maxRecDepth 100000 in
theorem sameI_any (L : List Int) (v u : Value) (w : World) (hv : RdI L v w) (hu : RdI L u w) :
    Calls Tryz.prog 45 #[v, u] w fun e w' => e = .returned (.bool true) ∧ Below w.heap.size w w' := by
  obtain ⟨a, cap, rfl⟩ := hv.shape
  obtain ⟨a2, cap2, rfl⟩ := hu.shape
  have HV := Lib.hid hv
  have HU := Lib.hid hu
  have hl : (L.length : Int) ≤ 9223372036854775807 := by
    obtain ⟨_, _, _, _, h1, h2, _⟩ := hv
    unfold maxLen at h2
    omega
  clear hv hu
  go_enter Tryz.func45, Tryz.ntmps45
  go_wp2
  go_loopw [5] (fun i wr => ∃ k : Nat, k ≤ L.length ∧ i = .int .i64 (k : Int) ∧ Hid (Below w.heap.size w wr)) (fun i _ => L.length - (intOf i).toNat)
  case atStart => exact ⟨0, by omega, rfl, Lib.hid (Below.refl _ _)⟩
  case round =>
    obtain ⟨k, hk, rfl, HB⟩ := hrel
    by_cases hlt : k < L.length
    · obtain ⟨_, b, off, rfl, hb, hc⟩ := HV.out.cellAt HB.out hlt
      obtain ⟨_, b2, off2, rfl, hb2, hc2⟩ := HU.out.cellAt HB.out hlt
      have hki : (k : Int) < (L.length : Int) := by omega
      go_wp2
      go_quiet (fail)
      go_wp2
      go_roundw
      case rel => exact ⟨k + 1, by omega, by go_num, Lib.hid (below_drewN HB.out _)⟩
      case measure => simp [intOf]; omega
    · obtain rfl : k = L.length := by omega
      go_wp2
      go_ret
      exact ⟨rfl, HB.out⟩
end Go.Proofs.YtjibbnknliamkaaGreatDoor
namespace Go.Proofs.YtjibbnknliamkaaGreatDoor
open Go.RowKit
set_option linter.unusedVariables false
set_option linter.unusedSimpArgs false
set_option maxRecDepth 100000 in
theorem sameC_any (c : CM) (v u : Value) (w : World) (hv : RdC c v w) (hu : RdC c u w) :
    Calls Tryz.prog 122 #[v, u] w fun e w' => e = .returned (.bool true) ∧ Below w.heap.size w w' := by
  obtain ⟨D, S, x, L, s⟩ := c
  obtain ⟨a, n, cap, rfl, hR⟩ := hv
  obtain ⟨a2, n2, cap2, rfl, hR2⟩ := hu
  dsimp only at hR hR2 ⊢
  have hs := sameI_any L (.slice a n cap) (.slice a2 n2 cap2) ((w.alloc (.cells #[.int .i64 D, .int .i64 S, .int .u64 x, .slice a n cap, .bool s] 36)).alloc (.cells #[.int .i64 D, .int .i64 S, .int .u64 x, .slice a2 n2 cap2, .bool s] 36)) (hR.below (b2 _ _)) (hR2.below (b2 _ _))
  clear hR hR2
  go_enter Tryz.func122, Tryz.ntmps122
  go_wp2_with (go_at_call 45; refine hs.mono ?_; rintro e w2 ⟨rfl, hb2⟩; have B2 := Lib.hid (bgo (b2 _ _) hb2); clear hb2)
  go_ret
  exact ⟨rfl, B2.out⟩
end Go.Proofs.YtjibbnknliamkaaGreatDoor
namespace Go.Proofs.YtjibbnknliamkaaGreatDoor
open Go.RowKit
set_option linter.unusedVariables false
set_option linter.unusedSimpArgs false
/-- The state of ValidateTop. -/
def RvS (W : World) (S T : Int) (v : Value) (s : Bool) (w : World) : Prop := TopS W.heap.size S T v s w ∧ Below W.heap.size W w
theorem RvS.go {W : World} {S T : Int} {v : Value} {s : Bool} {w w' : World} (h : RvS W S T v s w) (hb : Below w.heap.size w w') : RvS W S T v s w' := ⟨h.1.below hb h.1.lt, bgo h.2 hb⟩
set_option maxRecDepth 100000 in
set_option maxHeartbeats 4000000 in
theorem rval_any (S T : Int) (L : List Ent) (s : Bool) (a : Option Addr) (n cap : Nat) (w : World) (S0 : -9223372036854775808 ≤ S) (S1 : S ≤ 9223372036854775807) (T0 : -9223372036854775808 ≤ T) (T1 : T ≤ 9223372036854775807) (hr : RdE L (.slice a n cap) w) (hn : L.length ≤ 549755813888) :
    Calls Tryz.prog 77 #[.agg #[.int .i64 S, .int .i64 T, .slice a n cap, .bool s]] w fun e w' => e = .returned (.int .i64 (valE S T L)) ∧ Below w.heap.size w w' := by
  obtain ⟨a', cap', he⟩ := hr.shape
  simp only [Value.slice.injEq] at he
  obtain ⟨rfl, rfl, rfl⟩ := he
  have hy := hr.1
  have HR := Lib.hid hr
  have HCAP := Lib.hid hr
  clear hr
  unfold valE
  by_cases hp : S < 1 ∨ 32 < S ∨ T < 0 ∨ 1099511627776 < T
  · rw [if_pos hp]
    have hw1 := fun w => within_any S 1 32 w
    have hw2 := fun w => within_any T 0 1099511627776 w
    by_cases hs : S < 1 ∨ 32 < S
    · rw [show (decide (1 ≤ S) && decide (S ≤ 32)) = false by rw [Bool.and_eq_false_iff]; simp; omega] at hw1
      clear hs hp hw2
      go_enter Tryz.func77, Tryz.ntmps77
      go_wp2_with (go_at_call 87; (with_reducible refine (hw1 _).mono ?_); rintro e w' ⟨rfl, rfl⟩)
      go_ret
      exact ⟨rfl, b1 _⟩
    · rw [show (decide (1 ≤ S) && decide (S ≤ 32)) = true by simp; omega] at hw1
      rw [show (decide (0 ≤ T) && decide (T ≤ 1099511627776)) = false by rw [Bool.and_eq_false_iff]; simp; omega] at hw2
      clear hs hp
      go_enter Tryz.func77, Tryz.ntmps77
      go_wp2_with (go_at_call 87; first | ((with_reducible refine (hw1 _).mono ?_); rintro e w' ⟨rfl, rfl⟩) | ((with_reducible refine (hw2 _).mono ?_); rintro e w' ⟨rfl, rfl⟩))
      go_ret
      exact ⟨rfl, b1 _⟩
  · rw [if_neg hp]
    have hw1 := fun w => within_any S 1 32 w
    have hw2 := fun w => within_any T 0 1099511627776 w
    rw [show (decide (1 ≤ S) && decide (S ≤ 32)) = true by simp; omega] at hw1
    rw [show (decide (0 ≤ T) && decide (T ≤ 1099511627776)) = true by simp; omega] at hw2
    clear hp
    by_cases hl : S < L.length
    · rw [if_pos hl]
      go_enter Tryz.func77, Tryz.ntmps77
      go_wp2_with (go_at_call 87; first | ((with_reducible refine (hw1 _).mono ?_); rintro e w' ⟨rfl, rfl⟩) | ((with_reducible refine (hw2 _).mono ?_); rintro e w' ⟨rfl, rfl⟩))
      go_ret
      exact ⟨rfl, b1 _⟩
    · rw [if_neg hl]
      have hl2 : (L.length : Int) ≤ S := by omega
      obtain ⟨V, hV⟩ : ∃ V, V = vgo L L.length 0 := ⟨_, rfl⟩
      rw [← hV]
      have HV := Lib.hid hV
      clear hV
      have HS0 : Hid (RvS w S T (.slice a L.length cap) s (w.alloc (.cells #[.int .i64 S, .int .i64 T, .slice a L.length cap, .bool s] 41))) := Lib.hid ⟨TopS.new S T (.slice a L.length cap) s 41 w, b1 _⟩
      have d2 : decide (S < (L.length : Int)) = false := decide_eq_false (by omega)
      clear hl hl2
      go_enter Tryz.func77, Tryz.ntmps77
      go_wp2_with (go_at_call 87; first | ((with_reducible refine (hw1 _).mono ?_); rintro e w' ⟨rfl, rfl⟩) | ((with_reducible refine (hw2 _).mono ?_); rintro e w' ⟨rfl, rfl⟩))
      clear hw1 hw2 d2
      go_loopw [3, 4] (fun i _ wr => ∃ j : Nat, j ≤ L.length ∧ i = .int .i64 (j : Int) ∧ Hid (RvS w S T (.slice a L.length cap) s wr) ∧ Hid (vgo L (L.length - j) j = V)) (fun i _ _ => L.length - (intOf i).toNat)
      case atStart => exact ⟨0, by omega, rfl, HS0, Lib.hid (by rw [Nat.sub_zero]; exact HV.out.symm)⟩
      case round =>
        clear HS0 HV
        obtain ⟨j, hj, rfl, HI, HV⟩ := hrel
        obtain ⟨⟨-, -, q2, -⟩, -⟩ := HI.out.1
        by_cases hlt : j < L.length
        · have hlt2 : (j : Int) < (L.length : Int) := by omega
          have hv := HV.out
          rw [show L.length - j = (L.length - (j + 1)) + 1 by omega] at hv
          unfold vgo at hv
          have hrt := (HR.out.below HI.out.2)
          obtain ⟨-, a1, cap1, he1, hcl, -, hc1⟩ := hrt
          simp only [Value.slice.injEq, true_and] at he1
          obtain ⟨rfl, rfl⟩ := he1
          obtain ⟨b, off, rfl, hb, hcell⟩ := hc1 (by omega)
          obtain ⟨c0, c1, c2⟩ := hcell j hlt
          have HCELL := Lib.hid hcell
          clear hc1 hcell
          have hx := hy.at_ j
          have hee : errAt L j = errAt L j := rfl
          conv at hee => rhs; unfold errAt
          obtain ⟨X, hX⟩ : ∃ X, X = L.getD j Ent.z := ⟨_, rfl⟩
          rw [← hX] at hx c0 c1 c2 hee
          have HX := Lib.hid hX
          clear hX
          have hk := fun w => risKey_any X.k w hx.1
          obtain ⟨-, ⟨xc0, xc1⟩, xe0, xe1⟩ := hx
          have HB3 := Lib.hid (bal (HI.out.2) (.cells #[.string X.k, .int .i64 X.c, .int .i64 X.e] 64))
          have HI3 := Lib.hid (HI.out.go (b1 (.cells #[.string X.k, .int .i64 X.c, .int .i64 X.e] 64)))
          cases hK : keyB (byt X.k) with
          | false =>
            have hE : entE X = 7 := by unfold entE; rw [hK, if_pos rfl]
            rw [hE, if_pos (by decide)] at hee
            rw [hee, if_pos (by decide)] at hv
            subst hv
            rw [hK] at hk
            clear hee hE hK
            go_wp2_with (go_at_call 28; refine (hk _).mono ?_; rintro e w' ⟨rfl, rfl⟩)
            go_ret
            exact ⟨rfl, HB3.out⟩
          | true =>
            rw [hK] at hk
            by_cases hbad : X.c < 1 ∨ 1099511627776 < X.c ∨ X.e < 0 ∨ X.c ≤ X.e
            · have hE : entE X = 5 := by unfold entE; rw [hK, if_neg (by simp), if_pos hbad]
              rw [hE, if_pos (by decide)] at hee
              rw [hee, if_pos (by decide)] at hv
              subst hv
              clear hee hE hK
              have hv1 := fun w => within_any X.c 1 1099511627776 w
              have hv2 := fun w => within_any X.e 0 (X.c - 1) w
              by_cases hc : X.c < 1 ∨ 1099511627776 < X.c
              · rw [show (decide (1 ≤ X.c) && decide (X.c ≤ 1099511627776)) = false by rw [Bool.and_eq_false_iff]; simp; omega] at hv1
                clear hc hbad hv2
                go_wp2_with (first
                  | (go_at_call 28; refine (hk _).mono ?_; rintro e w' ⟨rfl, rfl⟩)
                  | (go_at_call 87; (with_reducible refine (hv1 _).mono ?_); rintro e w' ⟨rfl, rfl⟩))
                go_ret
                exact ⟨rfl, HB3.out⟩
              · rw [show (decide (1 ≤ X.c) && decide (X.c ≤ 1099511627776)) = true by simp; omega] at hv1
                rw [show (decide (0 ≤ X.e) && decide (X.e ≤ X.c - 1)) = false by rw [Bool.and_eq_false_iff]; simp; omega] at hv2
                have q7 : wrap64 (X.c - 1) = X.c - 1 := by unfold wrap64; omega
                clear hbad
                go_wp2_with (first
                  | (go_at_call 28; refine (hk _).mono ?_; rintro e w' ⟨rfl, rfl⟩)
                  | (go_at_call 87; first | ((with_reducible refine (hv1 _).mono ?_); rintro e w' ⟨rfl, rfl⟩) | ((with_reducible refine (hv2 _).mono ?_); rintro e w' ⟨rfl, rfl⟩)))
                go_ret
                exact ⟨rfl, HB3.out⟩
            · have hE : entE X = 0 := by unfold entE; rw [hK, if_neg (by simp), if_neg hbad]
              have hv1 := fun w => within_any X.c 1 1099511627776 w
              have hv2 := fun w => within_any X.e 0 (X.c - 1) w
              rw [show (decide (1 ≤ X.c) && decide (X.c ≤ 1099511627776)) = true by simp; omega] at hv1
              rw [show (decide (0 ≤ X.e) && decide (X.e ≤ X.c - 1)) = true by simp; omega] at hv2
              have q7 : wrap64 (X.c - 1) = X.c - 1 := by unfold wrap64; omega
              rw [hE, if_neg (by decide)] at hee
              have hfd := fun (w' : World) (hb : Below w.heap.size w w') => rfind_any (L.take j) X.k (some ⟨b, off, none⟩) j cap w' ((HR.out.below hb).take hj) (by rw [List.length_take]; omega)
              have hfh := findI_has (L.take j) X.k
              have HFD := Lib.hid hfd
              clear hE hbad hK hfd
              have hjc : (j : Int) ≤ (cap : Int) := by omega
              have hjl : (j : Int) ≤ (L.length : Int) := by omega
              have hj0' : (0 : Int) ≤ (j : Int) := by omega
              cases hH : hasK (L.take j) X.k with
              | true =>
                rw [if_pos hH] at hee
                rw [hee, if_pos (by decide)] at hv
                subst hv
                rw [hH] at hfh
                clear hee hH
                go_wp2_with (first
                  | (go_at_call 28; refine (hk _).mono ?_; rintro e w' ⟨rfl, rfl⟩)
                  | (go_at_call 87; first | ((with_reducible refine (hv1 _).mono ?_); rintro e w' ⟨rfl, rfl⟩) | ((with_reducible refine (hv2 _).mono ?_); rintro e w' ⟨rfl, rfl⟩)))
                clear hv1 hv2 hk
                obtain ⟨⟨-, -, qa2, -⟩, -⟩ := HI3.out.1
                go_quiet ((go_at_call 83; exact quiet_left (HFD.out _ (below_drewN HB3.out _))))
                have I2' := Lib.hid (HI3.out.go (below_drewN (Below.refl _ _) nq))
                have HAX' : Hid (At3 X wr.heap.size 0 ((wr.alloc (.cells #[.string X.k, .int .i64 X.c, .int .i64 X.e] 64)).drewN nq)) := Lib.hid ⟨by go_simp, by go_simp, by go_simp⟩
                have HWB' : Hid (Below (wr.alloc (.cells #[.string X.k, .int .i64 X.c, .int .i64 X.e] 64)).heap.size (wr.alloc (.cells #[.string X.k, .int .i64 X.c, .int .i64 X.e] 64)) ((wr.alloc (.cells #[.string X.k, .int .i64 X.c, .int .i64 X.e] 64)).drewN nq)) := Lib.hid (below_drewN (Below.refl _ _) nq)
                generalize (wr.alloc (.cells #[.string X.k, .int .i64 X.c, .int .i64 X.e] 64)).drewN nq = w2 at *
                go_wp2
                go_ret
                exact ⟨rfl, I2'.out.2⟩
              | false =>
                rw [if_neg (by rw [hH]; simp)] at hee
                rw [hH] at hfh
                by_cases hj0 : j = 0
                · rw [if_neg (by omega)] at hee
                  rw [hee, if_neg (by decide)] at hv
                  have HV2 := Lib.hid hv
                  clear hv hee
                  subst hj0
                  simp only [Nat.zero_mul, Nat.add_zero] at c0 c1 c2
                  go_wp2_with (first
                    | (go_at_call 28; refine (hk _).mono ?_; rintro e w' ⟨rfl, rfl⟩)
                    | (go_at_call 87; first | ((with_reducible refine (hv1 _).mono ?_); rintro e w' ⟨rfl, rfl⟩) | ((with_reducible refine (hv2 _).mono ?_); rintro e w' ⟨rfl, rfl⟩)))
                  clear hv1 hv2 hk
                  obtain ⟨⟨-, -, qa2, -⟩, -⟩ := HI3.out.1
                  go_quiet ((go_at_call 83; exact quiet_left (HFD.out _ (below_drewN HB3.out _))))
                  have I2' := Lib.hid (HI3.out.go (below_drewN (Below.refl _ _) nq))
                  have HAX' : Hid (At3 X wr.heap.size 0 ((wr.alloc (.cells #[.string X.k, .int .i64 X.c, .int .i64 X.e] 64)).drewN nq)) := Lib.hid ⟨by go_simp, by go_simp, by go_simp⟩
                  have HWB' : Hid (Below (wr.alloc (.cells #[.string X.k, .int .i64 X.c, .int .i64 X.e] 64)).heap.size (wr.alloc (.cells #[.string X.k, .int .i64 X.c, .int .i64 X.e] 64)) ((wr.alloc (.cells #[.string X.k, .int .i64 X.c, .int .i64 X.e] 64)).drewN nq)) := Lib.hid (below_drewN (Below.refl _ _) nq)
                  generalize (wr.alloc (.cells #[.string X.k, .int .i64 X.c, .int .i64 X.e] 64)).drewN nq = w2 at *
                  obtain ⟨⟨-, -, t2, -⟩, -⟩ := I2'.out.1
                  go_wp2
                  go_quiet (fail)
                  go_wp2
                  exact ⟨⟨1, by omega, rfl, Lib.hid (I2'.out.go (below_drewN (Below.refl _ _) _)), Lib.hid (by simpa using HV2.out)⟩, by simp [intOf]; omega⟩
                · obtain ⟨i, rfl⟩ : ∃ i : Nat, j = i + 1 := ⟨j - 1, by omega⟩
                  have hee2 : errAt L (i + 1) = if bef (L.getD i Ent.z) X = false then 19 else 0 := by
                    rw [hee, Nat.add_sub_cancel]
                    simp
                  have hq2 : (i : Int) < (L.length : Int) := by omega
                  have hq3 : (0 : Int) ≤ (i : Int) := by omega
                  have hq4 : (0 : Int) ≤ (i : Int) + 1 := by omega
                  have hq5 : IntKind.i64.wrap ((i : Int) + 1 - 1) = (i : Int) := by rw [IntKind.wrap_i64]; omega
                  have hq7 : wrap64 ((i : Int) + 1 - 1) = (i : Int) := by unfold wrap64; omega
                  have hq8 : IntKind.i64.wrap (i : Int) = (i : Int) := by rw [IntKind.wrap_i64]; omega
                  have hq6 : (0 : Int) < (i : Int) + 1 := by omega
                  have hq9 : (i : Int) + 1 ≤ (L.length : Int) := by omega
                  have hA3 := HCELL.out i (by omega)
                  have HPB : Hid (b < (wr.alloc (.cells #[.string X.k, .int .i64 X.c, .int .i64 X.e] 64)).heap.size) := Lib.hid (by simp; omega)
                  have HP3 := Lib.hid (hA3.below (b1 (.cells #[.string X.k, .int .i64 X.c, .int .i64 X.e] 64)) hb)
                  have hcm := fun w => before_any (L.getD i Ent.z) X w
                  clear hee hj0 hA3 hy
                  generalize L.getD i Ent.z = P at *
                  cases hbe : bef P X with
                  | false =>
                    rw [hee2, hbe, if_pos rfl, if_pos (by decide)] at hv
                    subst hv
                    rw [hbe] at hcm
                    clear hee2 hbe hH
                    go_wp2_with (first
                      | (go_at_call 28; refine (hk _).mono ?_; rintro e w' ⟨rfl, rfl⟩)
                      | (go_at_call 87; first | ((with_reducible refine (hv1 _).mono ?_); rintro e w' ⟨rfl, rfl⟩) | ((with_reducible refine (hv2 _).mono ?_); rintro e w' ⟨rfl, rfl⟩)))
                    clear hv1 hv2 hk
                    obtain ⟨⟨-, -, qa2, -⟩, -⟩ := HI3.out.1
                    go_quiet ((go_at_call 83; exact quiet_left (HFD.out _ (below_drewN HB3.out _))))
                    have I2' := Lib.hid (HI3.out.go (below_drewN (Below.refl _ _) nq))
                    have HAX' : Hid (At3 X wr.heap.size 0 ((wr.alloc (.cells #[.string X.k, .int .i64 X.c, .int .i64 X.e] 64)).drewN nq)) := Lib.hid ⟨by go_simp, by go_simp, by go_simp⟩
                    have HWB' : Hid (Below (wr.alloc (.cells #[.string X.k, .int .i64 X.c, .int .i64 X.e] 64)).heap.size (wr.alloc (.cells #[.string X.k, .int .i64 X.c, .int .i64 X.e] 64)) ((wr.alloc (.cells #[.string X.k, .int .i64 X.c, .int .i64 X.e] 64)).drewN nq)) := Lib.hid (below_drewN (Below.refl _ _) nq)
                    generalize (wr.alloc (.cells #[.string X.k, .int .i64 X.c, .int .i64 X.e] 64)).drewN nq = w2 at *
                    obtain ⟨x0, x1, x2⟩ := HAX'.out
                    obtain ⟨p0, p1, p2⟩ := HP3.out.below HWB'.out HPB.out
                    obtain ⟨⟨-, -, t2, -⟩, -⟩ := I2'.out.1
                    go_wp2
                    have hBd2 : Below w2.heap.size w2 w2.drew := (Below.refl w2.heap.size w2).drew
                    have HSB : Hid (∀ w1 w' : World, Below w2.heap.size w2 w1 → Below w1.heap.size w1 w' → Below w2.heap.size w2 w' ∧ TopS w.heap.size S T (.slice (some ⟨b, off, none⟩) L.length cap) s w' ∧ At3 X wr.heap.size 0 w' ∧ At3 P b (off + i * 3) w') :=
                      Lib.hid (fun w1 w' h k => by
                        have hb := bgo h k
                        have hz : wr.heap.size < w2.heap.size := Nat.lt_of_lt_of_le (by simp) HWB'.out.size
                        exact ⟨hb, (I2'.out.go hb).1, HAX'.out.below hb hz, (HP3.out.below HWB'.out HPB.out).below hb (Nat.lt_of_lt_of_le HPB.out HWB'.out.size)⟩)
                    go_region_held3 (fun w' => Below w2.heap.size w2 w' ∧ w'.cell? ⟨w.heap.size, 2, none⟩ = some (.slice (some ⟨b, off, none⟩) L.length cap) ∧ w'.cell? ⟨wr.heap.size, 0, none⟩ = some (.string X.k) ∧ w'.cell? ⟨wr.heap.size, 1, none⟩ = some (.int .i64 X.c) ∧ w'.cell? ⟨wr.heap.size, 2, none⟩ = some (.int .i64 X.e) ∧ w'.cell? ⟨b, off + i * 3, none⟩ = some (.string P.k) ∧ w'.cell? ⟨b, off + i * 3 + 1, none⟩ = some (.int .i64 P.c) ∧ w'.cell? ⟨b, off + i * 3 + 2, none⟩ = some (.int .i64 P.e)) (go_keep)
                      (first | (go_at_call 22; refine (hcm _).mono ?_; rintro e w' ⟨rfl, hb⟩; obtain ⟨S1, ⟨⟨-, -, t2, -⟩, -⟩, ⟨x0, x1, x2⟩, p0, p1, p2⟩ := HSB.out _ w' (by assumption) hb; clear hb))
                    all_goals
                      go_wp2
                      go_ret
                      exact ⟨rfl, bgo I2'.out.2 S1⟩
                  | true =>
                    rw [hee2, hbe, if_neg (by simp)] at hv
                    have HV2 := Lib.hid hv
                    rw [hbe] at hcm
                    clear hee2 hbe hv hH
                    go_wp2_with (first
                      | (go_at_call 28; refine (hk _).mono ?_; rintro e w' ⟨rfl, rfl⟩)
                      | (go_at_call 87; first | ((with_reducible refine (hv1 _).mono ?_); rintro e w' ⟨rfl, rfl⟩) | ((with_reducible refine (hv2 _).mono ?_); rintro e w' ⟨rfl, rfl⟩)))
                    clear hv1 hv2 hk
                    obtain ⟨⟨-, -, qa2, -⟩, -⟩ := HI3.out.1
                    go_quiet ((go_at_call 83; exact quiet_left (HFD.out _ (below_drewN HB3.out _))))
                    have I2' := Lib.hid (HI3.out.go (below_drewN (Below.refl _ _) nq))
                    have HAX' : Hid (At3 X wr.heap.size 0 ((wr.alloc (.cells #[.string X.k, .int .i64 X.c, .int .i64 X.e] 64)).drewN nq)) := Lib.hid ⟨by go_simp, by go_simp, by go_simp⟩
                    have HWB' : Hid (Below (wr.alloc (.cells #[.string X.k, .int .i64 X.c, .int .i64 X.e] 64)).heap.size (wr.alloc (.cells #[.string X.k, .int .i64 X.c, .int .i64 X.e] 64)) ((wr.alloc (.cells #[.string X.k, .int .i64 X.c, .int .i64 X.e] 64)).drewN nq)) := Lib.hid (below_drewN (Below.refl _ _) nq)
                    generalize (wr.alloc (.cells #[.string X.k, .int .i64 X.c, .int .i64 X.e] 64)).drewN nq = w2 at *
                    obtain ⟨x0, x1, x2⟩ := HAX'.out
                    obtain ⟨p0, p1, p2⟩ := HP3.out.below HWB'.out HPB.out
                    obtain ⟨⟨-, -, t2, -⟩, -⟩ := I2'.out.1
                    go_wp2
                    have hBd2 : Below w2.heap.size w2 w2.drew := (Below.refl w2.heap.size w2).drew
                    have HSB : Hid (∀ w1 w' : World, Below w2.heap.size w2 w1 → Below w1.heap.size w1 w' → Below w2.heap.size w2 w' ∧ TopS w.heap.size S T (.slice (some ⟨b, off, none⟩) L.length cap) s w' ∧ At3 X wr.heap.size 0 w' ∧ At3 P b (off + i * 3) w') :=
                      Lib.hid (fun w1 w' h k => by
                        have hb := bgo h k
                        have hz : wr.heap.size < w2.heap.size := Nat.lt_of_lt_of_le (by simp) HWB'.out.size
                        exact ⟨hb, (I2'.out.go hb).1, HAX'.out.below hb hz, (HP3.out.below HWB'.out HPB.out).below hb (Nat.lt_of_lt_of_le HPB.out HWB'.out.size)⟩)
                    go_region_held3 (fun w' => Below w2.heap.size w2 w' ∧ w'.cell? ⟨w.heap.size, 2, none⟩ = some (.slice (some ⟨b, off, none⟩) L.length cap) ∧ w'.cell? ⟨wr.heap.size, 0, none⟩ = some (.string X.k) ∧ w'.cell? ⟨wr.heap.size, 1, none⟩ = some (.int .i64 X.c) ∧ w'.cell? ⟨wr.heap.size, 2, none⟩ = some (.int .i64 X.e) ∧ w'.cell? ⟨b, off + i * 3, none⟩ = some (.string P.k) ∧ w'.cell? ⟨b, off + i * 3 + 1, none⟩ = some (.int .i64 P.c) ∧ w'.cell? ⟨b, off + i * 3 + 2, none⟩ = some (.int .i64 P.e)) (go_keep)
                      (first | (go_at_call 22; refine (hcm _).mono ?_; rintro e w' ⟨rfl, hb⟩; obtain ⟨S1, ⟨⟨-, -, t2, -⟩, -⟩, ⟨x0, x1, x2⟩, p0, p1, p2⟩ := HSB.out _ w' (by assumption) hb; clear hb))
                    all_goals
                      go_wp2
                      exact ⟨⟨i + 1 + 1, by omega, by go_num, Lib.hid (I2'.out.go S1), HV2⟩, by simp [intOf]; omega⟩
        · obtain rfl : j = L.length := by omega
          have hv := HV.out
          rw [Nat.sub_self] at hv
          subst hv
          go_wp2
          go_ret
          exact ⟨rfl, HI.out.2⟩
end Go.Proofs.YtjibbnknliamkaaGreatDoor
namespace Go.Proofs.YtjibbnknliamkaaGreatDoor
open Go.RowKit
set_option linter.unusedVariables false
/-- The frame but for slot i, which is v, and the n slots behind it. -/
def OffV (i n : Nat) (v : Value) (a a' : Act) : Prop := ∃ us : List Value, us.length = n ∧ a' = ⟨(a.tmps.toList.take i ++ v :: us ++ a.tmps.toList.drop (i + (n + 1))).toArray, a.defers⟩
theorem wp_meetV {P : Program} {s : Code} {Q : Exit → Act → World → Prop} {a : Act} {w : World} (i n : Nat) (R : Value → World → Prop)
    (first : ∀ G : Act → World → Prop, (∀ a' w' v, OffV i n v a a' → R v w' → G a' w') → s.wp P (Plain G) a w)
    (rest : ∀ a' w' v, OffV i n v a a' → R v w' → Q .normal a' w') : s.wp P Q a w := by
  refine wp_mono (first (fun a' w' => ∃ v, OffV i n v a a' ∧ R v w') (fun _ _ v h1 h2 => ⟨v, h1, h2⟩)) ?_
  intro e a' w' h
  cases e with
  | normal =>
    obtain ⟨v, h1, h2⟩ := h
    exact rest _ _ _ h1 h2
  | _ => exact h.elim
end Go.Proofs.YtjibbnknliamkaaGreatDoor
