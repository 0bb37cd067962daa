/- PFVal: in one text. -/
import Derived.Test.YtjibbnknliamkaaGreatDoorPk07
namespace Go.Proofs.YtjibbnknliamkaaGreatDoor
open Go.RowKit
set_option linter.unusedVariables false
set_option linter.unusedSimpArgs false
theorem isSz_any (S : Int) (w : World) : Calls Tryz.prog 145 #[.int .i64 S] w fun e w' => e = .returned (.bool (decide (1 ≤ S) && decide (S ≤ 32))) ∧ w = w' := by
  go_enter Tryz.func145, Tryz.ntmps145
  go_wp2
  all_goals
    go_ret
    exact ⟨ret_bool (by first | rfl | (rw [Bool.eq_iff_iff]; simp [*] <;> omega)), rfl⟩
theorem isTt_any (S : Int) (w : World) : Calls Tryz.prog 146 #[.int .i64 S] w fun e w' => e = .returned (.bool (decide (0 ≤ S) && decide (S ≤ 1099511627776))) ∧ w = w' := by
  go_enter Tryz.func146, Tryz.ntmps146
  go_wp2
  all_goals
    go_ret
    exact ⟨ret_bool (by first | rfl | (rw [Bool.eq_iff_iff]; simp [*] <;> omega)), rfl⟩
/-- The state of Validate. -/
def RvQ (W : World) (S T K : Int) (v : Value) (s : Bool) (w : World) : Prop := FqS W.heap.size S T K v s w ∧ Below W.heap.size W w
theorem RvQ.go {W : World} {S T K : Int} {v : Value} {s : Bool} {w w' : World} (h : RvQ W S T K v s w) (hb : Below w.heap.size w w') : RvQ W S T K v s w' := ⟨h.1.go hb, bgo h.2 hb⟩
theorem par3 (a b c : Bool) (h : (a && b && c) = false) : a = false ∨ (a = true ∧ b = false) ∨ (a = true ∧ b = true ∧ c = false) := by cases a <;> cases b <;> cases c <;> simp_all
set_option maxRecDepth 100000 in
set_option maxHeartbeats 4000000 in
theorem pvalQ_any (S T K : Int) (L : List Ent) (s : Bool) (a : Option Addr) (n cap : Nat) (w : World) (hr : RdE L (.slice a n cap) w) (hn : L.length ≤ 549755813888) :
    Calls Tryz.prog 109 #[.agg #[.int .i64 S, .int .i64 T, .int .i64 K, .slice a n cap, .bool s]] w fun e w' => e = .returned (.int .i64 (valQ S T K L)) ∧ Below w.heap.size w w' := by
  obtain ⟨a', cap', he⟩ := hr.shape
  simp only [Value.slice.injEq] at he
  obtain ⟨rfl, rfl, rfl⟩ := he
  have hy := hr.1
  have HR := Lib.hid hr
  clear hr
  unfold valQ
  have hz := fun w => isSz_any S w
  have ht := fun w => isTt_any T w
  have hk := fun w => isTt_any K w
  cases hp : parQ S T K with
  | false =>
    rw [if_pos rfl]
    unfold parQ at hp
    generalize (decide (1 ≤ S) && decide (S ≤ 32)) = bs at *
    generalize (decide (0 ≤ T) && decide (T ≤ 1099511627776)) = bt at *
    generalize (decide (0 ≤ K) && decide (K ≤ 1099511627776)) = bk at *
    rcases par3 _ _ _ hp with rfl | ⟨rfl, rfl⟩ | ⟨rfl, rfl, rfl⟩
    all_goals
      clear hp
      go_enter Tryz.func109, Tryz.ntmps109
      go_wp2_with (first
        | (go_at_call 145; (with_reducible refine (hz _).mono ?_); rintro e w' ⟨rfl, rfl⟩)
        | (go_at_call 146; first | ((with_reducible refine (ht _).mono ?_); rintro e w' ⟨rfl, rfl⟩) | ((with_reducible refine (hk _).mono ?_); rintro e w' ⟨rfl, rfl⟩)))
      go_ret
      exact ⟨rfl, b1 _⟩
  | true =>
    rw [if_neg (by simp)]
    obtain ⟨p1, p2, p3, p4, p5, p6⟩ := (parQ_iff S T K).1 hp
    rw [show (decide (1 ≤ S) && decide (S ≤ 32)) = true by simp; omega] at hz
    rw [show (decide (0 ≤ T) && decide (T ≤ 1099511627776)) = true by simp; omega] at ht
    rw [show (decide (0 ≤ K) && decide (K ≤ 1099511627776)) = true by simp; omega] at hk
    clear hp p1 p3 p4 p5 p6
    by_cases hl : S < L.length
    · rw [if_pos hl]
      go_enter Tryz.func109, Tryz.ntmps109
      go_wp2_with (first
        | (go_at_call 145; (with_reducible refine (hz _).mono ?_); rintro e w' ⟨rfl, rfl⟩)
        | (go_at_call 146; first | ((with_reducible refine (ht _).mono ?_); rintro e w' ⟨rfl, rfl⟩) | ((with_reducible refine (hk _).mono ?_); rintro e w' ⟨rfl, rfl⟩)))
      go_ret
      exact ⟨rfl, b1 _⟩
    · rw [if_neg hl]
      have d2 : decide (S < (L.length : Int)) = false := decide_eq_false (by omega)
      obtain ⟨V, hV⟩ : ∃ V, V = vgoQ L L.length 0 := ⟨_, rfl⟩
      rw [← hV]
      have HV := Lib.hid hV
      clear hV hl p2
      have HS0 : Hid (RvQ w S T K (.slice a L.length cap) s (w.alloc (.cells #[.int .i64 S, .int .i64 T, .int .i64 K, .slice a L.length cap, .bool s] 43))) := Lib.hid ⟨FqS.new S T K (.slice a L.length cap) s 43 w, b1 _⟩
      go_enter Tryz.func109, Tryz.ntmps109
      go_wp2_with (first
        | (go_at_call 145; (with_reducible refine (hz _).mono ?_); rintro e w' ⟨rfl, rfl⟩)
        | (go_at_call 146; first | ((with_reducible refine (ht _).mono ?_); rintro e w' ⟨rfl, rfl⟩) | ((with_reducible refine (hk _).mono ?_); rintro e w' ⟨rfl, rfl⟩)))
      clear hz ht hk d2
      go_loopw [3, 5, 31] (fun p _ i wr => ∃ j : Nat, j ≤ L.length ∧ i = .int .i64 (j : Int) ∧ p = .string (prevK L j) ∧ Hid (RvQ w S T K (.slice a L.length cap) s wr) ∧ Hid (vgoQ L (L.length - j) j = V)) (fun _ _ i _ => L.length - (intOf i).toNat)
      case atStart => exact ⟨0, by omega, rfl, rfl, HS0, Lib.hid (by rw [Nat.sub_zero]; exact HV.out.symm)⟩
      case round =>
        clear HS0 HV
        obtain ⟨j, hj, rfl, rfl, HI, HV⟩ := hrel
        by_cases hlt : j < L.length
        · have hlt2 : (j : Int) < (L.length : Int) := by omega
          have hv := HV.out
          rw [show L.length - j = (L.length - (j + 1)) + 1 by omega] at hv
          unfold vgoQ at hv
          obtain ⟨-, a1, cap1, he1, -, -, hc1⟩ := HR.out.below HI.out.2
          simp only [Value.slice.injEq, true_and] at he1
          obtain ⟨rfl, rfl⟩ := he1
          obtain ⟨b, off, rfl, hb, hcell⟩ := hc1 (by omega)
          obtain ⟨c0, c1, c2⟩ := hcell j hlt
          clear hc1 hcell
          have hx := hy.at_ j
          have HE0 := Lib.hid (fun h => errQ_prev (L := L) (j := j) h)
          have HE1 := Lib.hid (fun h => errQ_bad (L := L) (j := j) h)
          have HPS := Lib.hid (prevK_succ L j)
          generalize prevK L j = P at *
          generalize L.getD j Ent.z = X at *
          have hky := fun w => isKey_any X.k w hx.1
          obtain ⟨-, ⟨xc0, xc1⟩, xe0, xe1⟩ := hx
          have HB3 := Lib.hid (bal (HI.out.2) (.cells #[.string X.k, .int .i64 X.c, .int .i64 X.e] 64))
          have HI3 := Lib.hid (HI.out.go (b1 (.cells #[.string X.k, .int .i64 X.c, .int .i64 X.e] 64)))
          cases hK : keyB (byt X.k) with
          | false =>
            have hE : entQ X = 7 := by unfold entQ; rw [hK, if_pos rfl]
            rw [HE1.out (by rw [hE]; decide), hE, if_pos (by decide)] at hv
            subst hv
            rw [hK] at hky
            clear hE hK
            go_wp2_with (go_at_call 26; refine (hky _).mono ?_; rintro e w' ⟨rfl, rfl⟩)
            go_ret
            exact ⟨rfl, HB3.out⟩
          | true =>
            rw [hK] at hky
            by_cases hbad : X.c < 1 ∨ 1099511627776 < X.c ∨ X.e ≠ 0
            · have hE : entQ X = 5 := by unfold entQ; rw [hK, if_neg (by simp), if_pos hbad]
              rw [HE1.out (by rw [hE]; decide), hE, if_pos (by decide)] at hv
              subst hv
              clear hE hK
              have hb3 : X.c < 1 ∨ (1 ≤ X.c ∧ 1099511627776 < X.c) ∨ (1 ≤ X.c ∧ X.c ≤ 1099511627776 ∧ X.e ≠ 0) := by omega
              clear hbad
              rcases hb3 with hb3 | ⟨hb3, hb4⟩ | ⟨hb3, hb4, hb5⟩
              · go_wp2_with (go_at_call 26; refine (hky _).mono ?_; rintro e w' ⟨rfl, rfl⟩)
                go_ret
                exact ⟨rfl, HB3.out⟩
              · go_wp2_with (go_at_call 26; refine (hky _).mono ?_; rintro e w' ⟨rfl, rfl⟩)
                go_ret
                exact ⟨rfl, HB3.out⟩
              · have hb6 : (X.e == 0) = false := by simpa using hb5
                have hb7 : (X.e != 0) = true := by simpa using hb5
                clear hb5
                go_wp2_with (go_at_call 26; refine (hky _).mono ?_; rintro e w' ⟨rfl, rfl⟩)
                go_ret
                exact ⟨rfl, HB3.out⟩
            · have hE : entQ X = 0 := by unfold entQ; rw [hK, if_neg (by simp), if_neg hbad]
              rw [HE0.out hE] at hv
              have q1 : ¬ X.c < 1 := by omega
              have q2 : ¬ 1099511627776 < X.c := by omega
              have q0 : X.e = 0 := by omega
              have q3 : (X.e == 0) = true := by simpa using q0
              have q4 : (X.e != 0) = false := by simpa using q0
              clear q0
              clear hE hK hbad
              rcases lessK_tri P X.k with hl | hl | hl
              · rw [hl, if_neg (by simp)] at hv
                obtain ⟨g1, g2, g3, g4⟩ := cmp_lt hl
                have HV2 := Lib.hid hv
                clear hv hl
                go_wp2_with (go_at_call 26; refine (hky _).mono ?_; rintro e w' ⟨rfl, rfl⟩)
                exact ⟨⟨j + 1, by omega, by go_num, by rw [HPS.out], HI3, HV2⟩, by simp [intOf]; omega⟩
              · subst hl
                rw [lessK_irr, if_pos rfl, if_pos (by decide)] at hv
                subst hv
                obtain ⟨g1, g2⟩ := cmp_eq X.k
                go_wp2_with (go_at_call 26; refine (hky _).mono ?_; rintro e w' ⟨rfl, rfl⟩)
                go_ret
                exact ⟨rfl, HB3.out⟩
              · rw [lessK_asym hl, if_pos rfl, if_pos (by decide)] at hv
                subst hv
                obtain ⟨g1, g2, g3, g4⟩ := cmp_lt hl
                clear hl
                go_wp2_with (go_at_call 26; refine (hky _).mono ?_; rintro e w' ⟨rfl, rfl⟩)
                go_ret
                exact ⟨rfl, HB3.out⟩
        · obtain rfl : j = L.length := by omega
          have hv := HV.out
          rw [Nat.sub_self] at hv
          subst hv
          go_wp2
          go_ret
          exact ⟨rfl, HI.out.2⟩
end Go.Proofs.YtjibbnknliamkaaGreatDoor
