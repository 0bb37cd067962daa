/- The contracts of ParseKey of package names and of the reference. -/
import Derived.Test.YtedcleobhdjhaaaDoorKeys
namespace Go.Proofs.YtedcleobhdjhaaaDoor
open Go.RowKit
set_option linter.unusedVariables false
set_option linter.unusedSimpArgs false
theorem fromHex_at (D : List Int) (hy : Byt D) (hl : D.length ≤ 70368744177664) (w : World) :
    Calls Tryd.prog 39 #[.string (strOfNums D)] w fun e w' => e = .returned (.string (strOfNums (keyOf (37 :: D)))) ∧ Below w.heap.size w w' := by
  have h := fromHex_any (strOfNums D) w (by rw [str_size]; exact hl)
  rw [byt_str hy] at h
  exact h
theorem formatKey_at (K : List Int) (hy : Byt K) (hl : K.length ≤ 70368744177664) (w : World) :
    Calls Tryd.prog 17 #[.string (strOfNums K)] w fun e w' => e = .returned (.tuple #[.string (strOfNums (formK K).1), .int .i64 (formK K).2]) ∧ Below w.heap.size w w' := by
  have h := formatKey_any (strOfNums K) w (by rw [str_size]; unfold maxLen; omega)
  rw [byt_str hy] at h
  exact h
theorem keyOf_len (L : List Int) : (keyOf L).length ≤ L.length := by
  unfold keyOf
  split
  · rename_i D
    cases hu : unhexL D with
    | none => simp
    | some K =>
      have h := (hex_unhex _ D K (Nat.le_refl _) hu).1
      have := congrArg List.length h
      rw [hexL_len] at this
      simp; omega
  · exact Nat.le_refl _
set_option maxRecDepth 100000 in
theorem parseKey_any (s : ByteArray) (w : World) (hs : s.size ≤ 70368744177664) :
    Calls Tryd.prog 19 #[.string s] w fun e w' => e = .returned (.tuple #[.string (strOfNums (parK (byt s)).1), .int .i64 (parK (byt s)).2]) ∧ Below w.heap.size w w' := by
  have hyk := keyOf_byt (byt_byt s)
  have hlk := keyOf_len (byt s)
  rw [byt_len] at hlk
  have hf := fun w => formatKey_at (keyOf (byt s)) hyk (by omega) w
  have ht := teq (form_byt hyk) s
  have hpar : parK (byt s) = if (formK (keyOf (byt s))).2 = 0 ∧ (formK (keyOf (byt s))).1 = byt s then (keyOf (byt s), 0) else ([], 1) := by
    unfold parK
    by_cases h : (formK (keyOf (byt s))).2 = 0 ∧ (formK (keyOf (byt s))).1 = byt s
    · rw [if_pos h, if_pos (Prod.ext h.2 h.1)]
    · rw [if_neg h, if_neg (fun e => h ⟨by rw [e], by rw [e]⟩)]
  rw [hpar]
  have hsk : (∃ D, byt s = 37 :: D) ∨ (∀ D, byt s ≠ 37 :: D) := by
    by_cases h : ∃ D, byt s = 37 :: D
    · exact .inl h
    · exact .inr fun D e => h ⟨D, e⟩
  obtain ⟨F, hF⟩ : ∃ F, formK (keyOf (byt s)) = F := ⟨_, rfl⟩
  rw [hF] at hf ht ⊢
  clear hF hpar
  have hpost : ∀ (b1 b2 : Bool), (F.2 != 0) = b1 → ((strOfNums F.1).toList == s.toList) = b2 → (if F.2 = 0 ∧ F.1 = byt s then (keyOf (byt s), (0 : Int)) else ([], 1)) = if b1 = false ∧ b2 = true then (keyOf (byt s), (0 : Int)) else ([], 1) := by
    rintro _ _ rfl rfl
    rw [ht]
    by_cases h1 : F.2 = 0 <;> by_cases h2 : F.1 = byt s <;> simp [h1, h2]
  clear ht
  obtain ⟨A, hA⟩ : ∃ A, strOfNums F.1 = A := ⟨_, rfl⟩
  rw [hA] at hf hpost
  obtain ⟨E, hE⟩ : ∃ E, F.2 = E := ⟨_, rfl⟩
  rw [hE] at hf hpost
  rcases hsk with ⟨D, hD⟩ | hD
  · have hc := fun w => cut_yes s 37 D hD w
    have hyD : Byt D := fun n hn => byt_byt s n (by rw [hD]; simp [hn])
    have hlD : D.length + 1 = s.size := by rw [← byt_len, hD]; rfl
    have hx := fun w => fromHex_at D hyD (by omega) w
    rw [← hD] at hx
    rw [hE]
    cases h1 : (E != 0)
    all_goals cases h2 : (A.toList == s.toList)
    all_goals
      rw [hpost _ _ h1 h2]
      simp only [Bool.false_eq_true, Bool.true_eq_false, and_self, and_false, false_and, and_true, if_true, if_false]
      generalize strOfNums (keyOf (byt s)) = KS at *
      generalize strOfNums D = DS at *
      clear hpost
      go_enter Tryd.func19, Tryd.ntmps19
      go_wp2_with (first
        | (go_at_call 38; refine (hc _).mono ?_; rintro e w' ⟨rfl, rfl⟩)
        | (go_at_call 39; refine (hx _).mono ?_; rintro e w1 ⟨rfl, hb1⟩)
        | (go_at_call 17; refine (hf _).mono ?_; rintro e w2 ⟨rfl, hb2⟩))
      go_ret2
      exact ⟨rfl, hb1.trans (hb2.mono hb1.size)⟩
  · have hc := fun w => cut_no s 37 hD w
    rw [keyOf_plain hD, str_byt] at hf
    rw [keyOf_plain hD] at hpost ⊢
    rw [hE]
    cases h1 : (E != 0)
    all_goals cases h2 : (A.toList == s.toList)
    all_goals
      rw [hpost _ _ h1 h2]
      simp only [Bool.false_eq_true, Bool.true_eq_false, and_self, and_false, false_and, and_true, if_true, if_false, str_byt]
      clear hpost
      go_enter Tryd.func19, Tryd.ntmps19
      go_wp2_with (first
        | (go_at_call 38; refine (hc _).mono ?_; rintro e w' ⟨rfl, rfl⟩)
        | (go_at_call 17; refine (hf _).mono ?_; rintro e w2 ⟨rfl, hb2⟩))
      go_ret2
      exact ⟨rfl, hb2⟩
theorem unhex_at (D : List Int) (hy : Byt D) (hl : D.length ≤ 70368744177664) (w : World) :
    Calls Tryd.prog 40 #[.string (strOfNums D)] w (UnhexPost (unhexL D) w) := by
  have h := runhex_any (strOfNums D) w (by rw [str_size]; exact hl)
  rwa [byt_str hy] at h
theorem byt_extract (s : ByteArray) (a b : Nat) : byt (s.extract a b) = ((byt s).drop a).take (b - a) := by
  unfold byt
  rw [ByteArray.data_extract, Array.toList_extract, List.extract_eq_take_drop, List.map_take, List.map_drop]
theorem ext_tail (s : ByteArray) (c : Int) (D : List Int) (h : byt s = c :: D) : s.extract 1 s.size = strOfNums D := by
  apply byt_inj
  have e : byt (s.extract 1 s.size) = (byt s).drop 1 := by
    rw [byt_extract, List.take_of_length_le (by rw [List.length_drop, byt_len]; exact Nat.le_refl _)]
  have hy : Byt D := fun n hn => byt_byt s n (by rw [h]; simp [hn])
  rw [e, h, byt_str hy]
  rfl
set_option maxRecDepth 100000 in
theorem rparseKey_any (s : ByteArray) (w : World) (hs : s.size ≤ 70368744177664) :
    Calls Tryd.prog 20 #[.string s] w fun e w' => e = .returned (.tuple #[.string (strOfNums (parK (byt s)).1), .int .i64 (parK (byt s)).2]) ∧ Below w.heap.size w w' := by
  have hm : s.size ≤ maxLen := by unfold maxLen; omega
  have hk := fun w => risKey_any s w hm
  have hp := fun w => rplain_any s w hm
  by_cases hg : keyB (byt s) = true ∧ (byt s).all plaB = true
  · rw [parK_plain hg.1 hg.2, str_byt]
    rw [hg.1] at hk
    rw [hg.2] at hp
    clear hg
    go_enter Tryd.func20, Tryd.ntmps20
    go_wp2_with (first
      | (go_at_call 12; refine (hk _).mono ?_; rintro e w' ⟨rfl, rfl⟩)
      | (go_at_call 36; refine (hp _).mono ?_; rintro e w' ⟨rfl, rfl⟩))
    go_ret2
    exact ⟨rfl, Below.refl _ _⟩
  · by_cases h0 : 0 < s.size
    · have hb := byt_at h0
      have g0 : (0 : Int) < (s.size : Int) := by omega
      have hse := str_ne h0
      have hz1 : ((s.size : Int) == 0) = false := beq_eq_false_iff_ne.2 (by omega)
      have hz2 : ¬ s = ByteArray.empty := by rintro rfl; simp at h0
      have hcons : byt s = (s[0].toNat : Int) :: (byt s).drop 1 := by
        have hl : 0 < (byt s).length := by rw [byt_len]; exact h0
        rw [← hb]
        cases h : byt s with
        | nil => rw [h] at hl; simp at hl
        | cons a l => rfl
      generalize (byt s).drop 1 = D at hcons
      by_cases hc : (s[0].toNat : Int) = 37
      · rw [hc] at hcons
        have hyD : Byt D := fun n hn => byt_byt s n (by rw [hcons]; simp [hn])
        have hlD : D.length + 1 = s.size := by rw [← byt_len, hcons]; rfl
        have hx := fun w => unhex_at D hyD (by omega) w
        have he := ext_tail s 37 D hcons
        have hpl : (byt s).all plaB = false := by rw [hcons]; simp [pla37]
        rw [hpl] at hp
        rw [hcons]
        have hc1 : ((s[0].toNat : Int) != 37) = false := by simp [hc]
        clear hcons hpl hb hg
        generalize keyB (byt s) = KB at *
        cases hu : unhexL D with
        | none =>
          have hx0 : ∀ w, Calls Tryd.prog 40 #[.string (strOfNums D)] w fun e w' => ∃ t, e = .returned (.tuple #[.string t, .bool false]) ∧ Below w.heap.size w w' := fun w => (hx w).mono fun e w' ⟨t, h1, h2, h3⟩ => ⟨t, by rw [h1, hu]; rfl, h3⟩
          rw [parK_none hu]
          clear hx hu
          generalize strOfNums D = DS at *
          cases KB
          all_goals
            go_enter Tryd.func20, Tryd.ntmps20
            go_wp2_with (first
              | (go_at_call 12; refine (hk _).mono ?_; rintro e w' ⟨rfl, rfl⟩)
              | (go_at_call 36; refine (hp _).mono ?_; rintro e w' ⟨rfl, rfl⟩)
              | (go_at_call 40; refine (hx0 _).mono ?_; rintro e w1 ⟨t, rfl, hb1⟩))
            go_ret2
            exact ⟨rfl, hb1⟩
        | some K =>
          have hx0 : ∀ w, Calls Tryd.prog 40 #[.string (strOfNums D)] w fun e w' => e = .returned (.tuple #[.string (strOfNums K), .bool true]) ∧ Below w.heap.size w w' := fun w => (hx w).mono fun e w' ⟨t, h1, h2, h3⟩ => ⟨by rw [h1, hu, h2 K hu]; rfl, h3⟩
          obtain ⟨hh, hyK⟩ := hex_unhex _ D K (Nat.le_refl _) hu
          have hlK : K.length ≤ D.length := by rw [← hh, hexL_len]; omega
          have hkK := fun w => risKey_any (strOfNums K) w (by rw [str_size]; unfold maxLen; omega)
          have hpK := fun w => rplain_any (strOfNums K) w (by rw [str_size]; unfold maxLen; omega)
          rw [byt_str hyK] at hkK hpK
          clear hx hh
          cases k1 : keyB K
          all_goals cases p1 : K.all plaB
          all_goals
            first | rw [parK_bad hu (.inl k1)] | rw [parK_bad hu (.inr p1)] | rw [parK_good hu k1 p1]
            rw [k1] at hkK
            rw [p1] at hpK
            clear k1 p1 hu
            generalize strOfNums D = DS at *
            generalize strOfNums K = KS at *
            cases KB
            all_goals
              go_enter Tryd.func20, Tryd.ntmps20
              go_wp2_with (first
                | (go_at_call 12; first | ((with_reducible refine (hk _).mono ?_); rintro e w' ⟨rfl, rfl⟩) | ((with_reducible refine (hkK _).mono ?_); rintro e w' ⟨rfl, rfl⟩))
                | (go_at_call 36; first | ((with_reducible refine (hp _).mono ?_); rintro e w' ⟨rfl, rfl⟩) | ((with_reducible refine (hpK _).mono ?_); rintro e w' ⟨rfl, rfl⟩))
                | (go_at_call 40; refine (hx0 _).mono ?_; rintro e w1 ⟨rfl, hb1⟩))
              go_ret2
              exact ⟨rfl, hb1⟩
      · have hc1 : ((s[0].toNat : Int) != 37) = true := by simp [hc]
        rw [parK_no hg (fun D' e => hc (by rw [hcons] at e; exact (List.cons.inj e).1))]
        clear hcons hb
        generalize keyB (byt s) = KB at *
        generalize (byt s).all plaB = PB at *
        cases KB
        all_goals cases PB
        all_goals first
          | exact absurd ⟨rfl, rfl⟩ hg
          | (clear hg
             go_enter Tryd.func20, Tryd.ntmps20
             go_wp2_with (first
               | (go_at_call 12; refine (hk _).mono ?_; rintro e w' ⟨rfl, rfl⟩)
               | (go_at_call 36; refine (hp _).mono ?_; rintro e w' ⟨rfl, rfl⟩))
             go_ret2
             exact ⟨rfl, Below.refl _ _⟩)
    · obtain rfl := size_zero s (by omega)
      rw [parK_no hg (by simp [byt])]
      have hk0 : keyB (byt ByteArray.empty) = false := by decide +kernel
      rw [hk0] at hk
      go_enter Tryd.func20, Tryd.ntmps20
      go_wp2_with (go_at_call 12; refine (hk _).mono ?_; rintro e w' ⟨rfl, rfl⟩)
      go_ret2
      exact ⟨rfl, Below.refl _ _⟩
end Go.Proofs.YtedcleobhdjhaaaDoor
