/- The contracts of the reference's within and ValidateRanks. -/
import Derived.Test.YtdifilhfmbpalaaDoorPRVal
namespace Go.Proofs.YtdifilhfmbpalaaDoor
open Go.RowKit
set_option linter.unusedVariables false
set_option linter.unusedSimpArgs false
def inW (n l h : Int) : Bool := decide (l ≤ n) && decide (n ≤ h)
theorem rwithin_any (n l h : Int) (w : World) :
    Calls Tryd.prog 43 #[.int .i64 n, .int .i64 l, .int .i64 h] w fun e w' => e = .returned (.bool (inW n l h)) ∧ w = w' := by
  unfold inW
  go_enter Tryd.func43, Tryd.ntmps43
  go_wp2
  all_goals
    go_ret
    exact ⟨ret_bool (by first | rfl | (rw [Bool.eq_iff_iff]; simp [*] <;> omega)), rfl⟩
/-- The cell of a key of a level. -/
theorem MR.key {W : World} {g : Nat} {t : RK} {v : Value} {w : World} (h : MR W g t v w) : True := trivial
theorem levels_take {L : List (List ByteArray)} {j : Nat} (h : j < L.length) (hm : ∀ l ∈ L.take j, l.length ≤ 31) (hl : (L.getD j []).length ≤ 31) : ∀ l ∈ L.take (j + 1), l.length ≤ 31 := by
  rw [take_getD (d := []) h]
  intro l hl'
  rcases List.mem_append.1 hl' with h1 | h1
  · exact hm l h1
  · rw [List.mem_singleton] at h1
    rw [h1]; exact hl
set_option maxRecDepth 100000 in
set_option maxHeartbeats 8000000 in
theorem rvalR_any (S T K : Int) (L : List (List ByteArray)) (s : Bool) (a : Option Addr) (n cap : Nat) (w : World) (hr : RdL L (.slice a n cap) w) (hk : LOk L) :
    Calls Tryd.prog 21 #[.agg #[.int .i64 S, .int .i64 T, .int .i64 K, .slice a n cap, .bool s]] w fun e w' => e = .returned (.int .i64 (valR S T K L)) ∧ Below w.heap.size w w' := by
  obtain ⟨a', cap', he⟩ := hr.shape
  simp only [Value.slice.injEq] at he
  obtain ⟨rfl, rfl, rfl⟩ := he
  have hn := hk.1
  have HR := Lib.hid hr
  have HK := Lib.hid hk
  clear hr hk
  have hz := fun w => rwithin_any S 2 32 w
  have ht := fun w => rwithin_any T 0 1099511627776 w
  have hk := fun w => rwithin_any K 0 1099511627776 w
  by_cases hp : parR S T K = true
  · have HX0 : Hid (valR S T K L = if 41 < L.length then 11 else if lvsE S L ≠ 0 then lvsE S L else if lastE L = true then 18 else if (insN 0 L : Int) ≠ T then 17 else 0) := Lib.hid (by unfold valR; rw [hp, if_neg (by simp)])
    obtain ⟨⟨p1, p2, p3⟩, ⟨p4, p5⟩, p6, p7⟩ := (parR_iff S T K).1 hp
    rw [show inW S 2 32 = true by unfold inW; simp; omega] at hz
    rw [show inW T 0 1099511627776 = true by unfold inW; simp; omega] at ht
    rw [show inW K 0 1099511627776 = true by unfold inW; simp; omega] at hk
    have hm : Int.tmod S 2 = 0 := by rw [Int.tmod_eq_emod_of_nonneg (by omega)]; exact p3
    clear hp p1 p3 p4 p5 p6 p7
    by_cases hl : 41 < L.length
    · rw [HX0.out, if_pos hl]
      go_enter Tryd.func21, Tryd.ntmps21
      go_wp2_with (go_at_call 43; first
        | ((with_reducible refine (hz _).mono ?_); rintro e w' ⟨rfl, rfl⟩)
        | ((with_reducible refine (ht _).mono ?_); rintro e w' ⟨rfl, rfl⟩)
        | ((with_reducible refine (hk _).mono ?_); rintro e w' ⟨rfl, rfl⟩))
      go_ret
      exact ⟨rfl, b1 _⟩
    · obtain ⟨X, hX⟩ : ∃ X, X = valR S T K L := ⟨_, rfl⟩
      rw [← hX]
      have HX : Hid (X = if lvsE S L ≠ 0 then lvsE S L else if lastE L = true then 18 else if (insN 0 L : Int) ≠ T then 17 else 0) := Lib.hid (by rw [hX, HX0.out, if_neg hl])
      clear hX HX0
      have d2 : ¬ (41 : Int) < (L.length : Int) := by omega
      obtain ⟨V, hV⟩ : ∃ V, V = lvsE S L := ⟨_, rfl⟩
      rw [← hV] at HX
      have HV := Lib.hid hV
      have HPB := Lib.hid p2
      clear hV p2
      have HS0 : Hid (MR w w.heap.size ⟨S, T, K, L, s⟩ (.slice a L.length cap) (w.alloc (.cells #[.int .i64 S, .int .i64 T, .int .i64 K, .slice a L.length cap, .bool s] 28))) := Lib.hid ⟨RsS.new S T K (.slice a L.length cap) s 28 w, HR.out.below (b1 _), b1 _⟩
      go_enter Tryd.func21, Tryd.ntmps21
      go_wp2_with (go_at_call 43; first
        | ((with_reducible refine (hz _).mono ?_); rintro e w' ⟨rfl, rfl⟩)
        | ((with_reducible refine (ht _).mono ?_); rintro e w' ⟨rfl, rfl⟩)
        | ((with_reducible refine (hk _).mono ?_); rintro e w' ⟨rfl, rfl⟩))
      clear hz ht hk d2 hm
      go_loopw [3, 4, 5] (fun q i _ wr => ∃ j : Nat, j ≤ L.length ∧ i = .int .i64 (j : Int) ∧ q = .int .i64 (insN 0 (L.take j) : Nat) ∧ Hid (MR w w.heap.size ⟨S, T, K, L, s⟩ (.slice a L.length cap) wr) ∧ Hid (lvsE S (L.drop j) = V) ∧ Hid (∀ l ∈ L.take j, l.length ≤ 31)) (fun _ i _ _ => L.length - (intOf i).toNat)
      case atStart => exact ⟨0, by omega, rfl, rfl, HS0, Lib.hid (by rw [List.drop_zero]; exact HV.out.symm), Lib.hid (fun l hl => by cases hl)⟩
      case round =>
        clear HS0
        obtain ⟨j, hj, rfl, rfl, HI, HVJ, HM⟩ := hrel
        obtain ⟨⟨s0, s1, s2, s3, s4⟩, -⟩ := HI.out.1
        by_cases hlt : j < L.length
        · have hlt2 : (j : Int) < (L.length : Int) := by omega
          have hv := HVJ.out
          rw [drop_getD (d := []) hlt] at hv
          unfold lvsE at hv
          obtain ⟨b, off, u, m, c, rfl, -, hb, hc, hrd, rfl⟩ := HI.out.2.1.at_ hlt
          have h1 := insN_bd (L.take j) 0 31 HM.out
          have h2 := insN_take hlt
          have HT31 := Lib.hid (fun h => levels_take hlt HM.out h)
          rw [List.length_take, Nat.min_eq_left hj] at h1
          simp only [Nat.pow_zero, Nat.zero_add, Nat.mul_one] at h1
          have hbig := HK.out.at_ j
          have HLV : Hid (lvlE S (L.getD j []) = if S ≤ ((L.getD j []).length : Int) then 11 else lvgo ⟨#[]⟩ (L.getD j [])) := Lib.hid rfl
          clear HVJ
          generalize L.getD j [] = l at *
          generalize insN 0 (L.take j) = s at *
          by_cases hfull : S ≤ (l.length : Int)
          · have hE := HLV.out.trans (if_pos hfull)
            rw [hE, if_pos (by decide)] at hv
            subst hv
            have HX2 := Lib.hid (HX.out.trans (if_pos (by decide)))
            clear HX HV hE HLV
            go_wp2
            go_quiet (fail)
            go_wp2
            go_ret
            exact ⟨by rw [HX2.out]; rfl, below_drewN HI.out.2.2 _⟩
          · have hE := HLV.out.trans (if_neg hfull)
            have hls : (l.length : Int) < S := by omega
            have hl31 : l.length ≤ 31 := by have := HPB.out; omega
            have HT := Lib.hid (HT31.out hl31)
            clear HT31 HLV hfull
            obtain ⟨V', hV'⟩ : ∃ V', V' = lvgo ⟨#[]⟩ l := ⟨_, rfl⟩
            have HB9 := Lib.hid hbig.2
            have HVV : Hid ((if V' ≠ 0 then V' else lvsE S (L.drop (j + 1))) = V) := Lib.hid (by rw [hV', ← hE]; exact hv)
            have HVK : Hid (lvgo (prevS l 0) (l.drop 0) = V') := Lib.hid (by rw [hV', prevS_zero, List.drop_zero])
            clear hv hE hV' hbig
            have HRD := Lib.hid hrd
            clear hrd
            have hp := pow40 (show j ≤ 40 by omega)
            have h4 : l.length * 2 ^ j ≤ 31 * 2 ^ j := Nat.mul_le_mul_right _ hl31
            have h5 : s + l.length * 2 ^ j ≤ 4611686018427387904 := by
              generalize l.length * 2 ^ j = q at *
              generalize 2 ^ j = r at *
              omega
            have e1 := wr_mul l.length j (by omega)
            have e0 : IntKind.u64.wrap (j : Int) = (j : Int) := by rw [IntKind.wrap_u64]; omega
            have HW := Lib.hid (wr_pow s l.length j h5)
            have H2 := Lib.hid h2
            clear h1 h2 h4 hp h5
            go_wp2
            go_quiet (fail)
            go_wp2
            go_loopw [5] (fun kk wr' => ∃ k m : Nat, k ≤ l.length ∧ kk = .int .i64 (k : Int) ∧ Hid (lvgo (prevS l k) (l.drop k) = V') ∧ wr' = wr.drewN m) (fun kk _ => l.length - (intOf kk).toNat)
            case atStart => exact ⟨0, _, by omega, rfl, HVK, rfl⟩
            case round =>
              clear HVK
              obtain ⟨k, md, hk, rfl, HVK, rfl⟩ := hrel
              by_cases hkl : k < l.length
              · have hkl2 : (k : Int) < (l.length : Int) := by omega
                have hv := HVK.out
                rw [drop_getD (d := ByteArray.empty) hkl] at hv
                unfold lvgo at hv
                obtain ⟨b2, off2, rfl, hb2, hc2⟩ := HRD.out.cell hkl
                have HPS := Lib.hid (prevS_succ l k)
                have hky := fun w => risKey_any (l.getD k ByteArray.empty) w (HB9.out.at_ k)
                have HP1 : Hid (∀ q, k = q + 1 → prevS l k = l.getD q ByteArray.empty ∧ q < l.length ∧ wr.cell? ⟨b2, off2 + q, none⟩ = some (.string (l.getD q ByteArray.empty))) := Lib.hid (fun q hq => by
                  subst hq
                  obtain ⟨b3, off3, he3, -, hc3⟩ := HRD.out.cell (k := q) (by omega)
                  simp only [Option.some.injEq, Addr.mk.injEq, and_true] at he3
                  obtain ⟨rfl, rfl⟩ := he3
                  exact ⟨prevS_succ l q, by omega, hc3⟩)
                have HP0 : Hid (k = 0 → prevS l k = ⟨#[]⟩) := Lib.hid (fun hq => by subst hq; rfl)
                generalize prevS l k = P at *
                generalize l.getD k ByteArray.empty = Y at *
                cases hK : keyB (byt Y) with
                | false =>
                  have hE : keyE P Y = 7 := by unfold keyE; rw [hK]; rfl
                  rw [hE, if_pos (by decide)] at hv
                  subst hv
                  rw [hK] at hky
                  have HX2 : Hid (X = 7) := Lib.hid (by
                    have h := HVV.out
                    rw [if_pos (by decide)] at h
                    subst h
                    exact HX.out.trans (if_pos (by decide)))
                  clear hK hE HP1 HP0
                  go_wp2_with (go_at_call 47; refine (hky _).mono ?_; rintro e w' ⟨rfl, rfl⟩)
                  go_ret
                  exact ⟨by rw [HX2.out]; rfl, below_drewN HI.out.2.2 _⟩
                | true =>
                  rw [hK] at hky
                  by_cases hk0 : k = 0
                  · have hP := HP0.out hk0
                    subst hP
                    subst hk0
                    have hE : keyE ⟨#[]⟩ Y = 0 := by unfold keyE; rw [hK, lessK_zero]; rfl
                    rw [hE, if_neg (by decide)] at hv
                    have HV2 := Lib.hid hv
                    have hz0 : (0 : Int) < (l.length : Int) := by omega
                    rw [Nat.add_zero] at hc2
                    clear hK hE HP1 HP0 hv
                    go_wp2_with (go_at_call 47; refine (hky _).mono ?_; rintro e w' ⟨rfl, rfl⟩)
                    go_quiet (fail)
                    go_wp2
                    exact ⟨⟨1, _, by omega, by go_num, Lib.hid (by rw [HPS.out]; exact HV2.out), rfl⟩, by simp [intOf]; omega⟩
                  · obtain ⟨q, rfl⟩ : ∃ q, k = q + 1 := ⟨k - 1, by omega⟩
                    obtain ⟨hP, hq, hcq⟩ := HP1.out q rfl
                    have q1 : (0 : Int) < (q : Int) + 1 := by omega
                    have q2 : IntKind.i64.wrap ((q : Int) + 1 - 1) = (q : Int) := by rw [IntKind.wrap_i64]; omega
                    have q3 : wrap64 ((q : Int) + 1 - 1) = (q : Int) := by unfold wrap64; omega
                    have q4 : (q : Int) < (l.length : Int) := by omega
                    have q5 : (q : Int) + 1 < (l.length : Int) := by omega
                    have q6 : (0 : Int) ≤ (q : Int) + 1 := by omega
                    have q7 : (0 : Int) ≤ (q : Int) := by omega
                    have q8 : IntKind.i64.wrap (q : Int) = (q : Int) := by rw [IntKind.wrap_i64]; omega
                    rw [← hP] at hcq
                    clear hP hk0 HP1 HP0
                    cases hL : lessK Y P with
                    | true =>
                      have hE : keyE P Y = 19 := by unfold keyE; rw [hK, hL]; rfl
                      rw [hE, if_pos (by decide)] at hv
                      subst hv
                      have HX2 : Hid (X = 19) := Lib.hid (by
                        have h := HVV.out
                        rw [if_pos (by decide)] at h
                        subst h
                        exact HX.out.trans (if_pos (by decide)))
                      unfold lessK at hL
                      clear hK hE
                      go_wp2_with (go_at_call 47; refine (hky _).mono ?_; rintro e w' ⟨rfl, rfl⟩)
                      go_quiet (fail)
                      go_wp2
                      go_ret
                      exact ⟨by rw [HX2.out]; rfl, by first | exact below_drewN HI.out.2.2 _ | exact below_drewN (below_drewN HI.out.2.2 _) _⟩
                    | false =>
                      have hE : keyE P Y = 0 := by unfold keyE; rw [hK, hL]; rfl
                      rw [hE, if_neg (by decide)] at hv
                      have HV2 := Lib.hid hv
                      unfold lessK at hL
                      clear hK hE hv
                      go_wp2_with (go_at_call 47; refine (hky _).mono ?_; rintro e w' ⟨rfl, rfl⟩)
                      go_quiet (fail)
                      go_wp2
                      exact ⟨⟨q + 1 + 1, _, by omega, by go_num, Lib.hid (by rw [HPS.out]; exact HV2.out), rfl⟩, by simp [intOf]; omega⟩
              · obtain rfl : k = l.length := by omega
                have hnlt : ¬ (l.length : Int) < (l.length : Int) := by omega
                have hv := HVK.out
                rw [List.drop_length] at hv
                unfold lvgo at hv
                subst hv
                have HV2 := Lib.hid ((if_neg (by decide)).symm.trans HVV.out)
                have HIN := Lib.hid (HI.out.go (below_drewN (Below.refl _ _) md))
                clear HVV HVK
                go_wp2
                exact ⟨⟨j + 1, by omega, by go_num, by rw [H2.out, ← HW.out], HIN, HV2, HT⟩, by simp [intOf]; omega⟩
        · obtain rfl : j = L.length := by omega
          have hnlt : ¬ (L.length : Int) < (L.length : Int) := by omega
          have hv := HVJ.out
          rw [List.drop_length] at hv
          unfold lvsE at hv
          subst hv
          have HX2 := Lib.hid (HX.out.trans (if_neg (by decide)))
          clear HV HVJ HX
          rw [List.take_length]
          cases hle : lastE L with
          | true =>
            have HX3 := Lib.hid (HX2.out.trans (if_pos hle))
            unfold lastE at hle
            simp only [Bool.and_eq_true, decide_eq_true_eq] at hle
            obtain ⟨q0, q1⟩ := hle
            have q2 : (0 : Int) < (L.length : Int) := by omega
            obtain ⟨b, off, u, m, c, rfl, -, hb, hc, -, hm⟩ := HI.out.2.1.at_ (k := L.length - 1) (show L.length - 1 < L.length by omega)
            rw [q1] at hm
            subst hm
            have q3 : IntKind.i64.wrap ((L.length : Int) - 1) = ((L.length - 1 : Nat) : Int) := by rw [IntKind.wrap_i64]; omega
            have q4 : wrap64 ((L.length : Int) - 1) = ((L.length - 1 : Nat) : Int) := by unfold wrap64; omega
            have q5 : ((L.length - 1 : Nat) : Int) < (L.length : Int) := by omega
            have q6 : L.length - 1 < L.length := by omega
            clear HX2
            go_wp2
            go_ret
            exact ⟨by rw [HX3.out]; rfl, HI.out.2.2⟩
          | false =>
            have HX3 : Hid (X = if (insN 0 L : Int) ≠ T then 17 else 0) := Lib.hid (HX2.out.trans (if_neg (by rw [hle]; simp)))
            clear HX2
            have HL0 : Hid (0 < L.length → 0 < (L.getD (L.length - 1) []).length) := Lib.hid (fun h => by
              unfold lastE at hle
              simp only [Bool.and_eq_false_iff, decide_eq_false_iff_not] at hle
              omega)
            clear hle
            generalize insN 0 L = II at *
            have hII : ((II : Int) = T ∧ X = 0) ∨ ((II : Int) ≠ T ∧ X = 17) := by
              have := HX3.out
              by_cases hI : (II : Int) = T
              · rw [if_neg (by simpa using hI)] at this; exact .inl ⟨hI, this⟩
              · rw [if_pos hI] at this; exact .inr ⟨hI, this⟩
            clear HX3
            have HXX : ∃ bb : Bool, ((II : Int) == T) = bb ∧ ((II : Int) != T) = !bb ∧ Hid (X = if bb = true then 0 else 17) := by
              rcases hII with ⟨h1, h2⟩ | ⟨h1, h2⟩
              · exact ⟨true, by simpa using h1, by simpa using h1, Lib.hid h2⟩
              · exact ⟨false, by simpa using h1, by simpa using h1, Lib.hid h2⟩
            obtain ⟨bb, hb1, hb2, HXB⟩ := HXX
            clear hII
            by_cases h0 : L.length = 0
            · have q2 : ¬ (0 : Int) < (L.length : Int) := by omega
              clear h0 HL0
              cases bb
              all_goals
                go_wp2
                go_ret
                exact ⟨by rw [HXB.out]; rfl, HI.out.2.2⟩
            · have q2 : (0 : Int) < (L.length : Int) := by omega
              obtain ⟨b, off, u, m, c, rfl, -, hb, hc, -, hm⟩ := HI.out.2.1.at_ (k := L.length - 1) (show L.length - 1 < L.length by omega)
              have hm2 : 0 < m := by
                have := HL0.out (by omega)
                rw [hm]
                exact this
              have q3 : IntKind.i64.wrap ((L.length : Int) - 1) = ((L.length - 1 : Nat) : Int) := by rw [IntKind.wrap_i64]; omega
              have q4 : wrap64 ((L.length : Int) - 1) = ((L.length - 1 : Nat) : Int) := by unfold wrap64; omega
              have q5 : ((L.length - 1 : Nat) : Int) < (L.length : Int) := by omega
              have q6 : L.length - 1 < L.length := by omega
              have q7 : ((m : Int) == 0) = false := by simp; omega
              have q8 : ((m : Int) = 0) = False := by simp; omega
              clear h0 HL0 hm hm2
              cases bb
              all_goals
                go_wp2
                go_ret
                exact ⟨by rw [HXB.out]; rfl, HI.out.2.2⟩
  · have hX : valR S T K L = 5 := by unfold valR; rw [if_pos (by simpa using hp)]
    rw [hX]
    have hc : inW S 2 32 = false ∨ (inW S 2 32 = true ∧ Int.tmod S 2 = 1) ∨ (inW S 2 32 = true ∧ Int.tmod S 2 = 0 ∧ inW T 0 1099511627776 = false) ∨ (inW S 2 32 = true ∧ Int.tmod S 2 = 0 ∧ inW T 0 1099511627776 = true ∧ inW K 0 1099511627776 = false) := by
      rw [parR_iff] at hp
      by_cases h1 : 2 ≤ S ∧ S ≤ 32
      · have e : Int.tmod S 2 = S % 2 := Int.tmod_eq_emod_of_nonneg (by omega)
        rw [e]
        have e1 : inW S 2 32 = true := by unfold inW; simp; omega
        rw [e1]
        by_cases h2 : S % 2 = 0
        · by_cases h3 : 0 ≤ T ∧ T ≤ 1099511627776
          · have e2 : inW T 0 1099511627776 = true := by unfold inW; simp; omega
            have e3 : inW K 0 1099511627776 = false := by
              unfold inW
              rw [Bool.eq_false_iff]
              simp
              omega
            exact .inr (.inr (.inr ⟨rfl, h2, e2, e3⟩))
          · have e2 : inW T 0 1099511627776 = false := by
              unfold inW
              rw [Bool.eq_false_iff]
              simp
              omega
            exact .inr (.inr (.inl ⟨rfl, h2, e2⟩))
        · exact .inr (.inl ⟨rfl, by omega⟩)
      · left
        unfold inW
        rw [Bool.eq_false_iff]
        simp
        omega
    clear hp hX
    generalize inW S 2 32 = bs at *
    generalize inW T 0 1099511627776 = bt at *
    generalize inW K 0 1099511627776 = bk at *
    rcases hc with rfl | ⟨rfl, hm⟩ | ⟨rfl, hm, rfl⟩ | ⟨rfl, hm, rfl, rfl⟩
    all_goals
      go_enter Tryd.func21, Tryd.ntmps21
      go_wp2_with (go_at_call 43; first
        | ((with_reducible refine (hz _).mono ?_); rintro e w' ⟨rfl, rfl⟩)
        | ((with_reducible refine (ht _).mono ?_); rintro e w' ⟨rfl, rfl⟩)
        | ((with_reducible refine (hk _).mono ?_); rintro e w' ⟨rfl, rfl⟩))
      go_ret
      exact ⟨rfl, b1 _⟩
end Go.Proofs.YtdifilhfmbpalaaDoor
