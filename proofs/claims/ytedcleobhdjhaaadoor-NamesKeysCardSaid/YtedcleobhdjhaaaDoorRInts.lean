/- The contract of the reference's ParseInt. -/
import Derived.Test.YtedcleobhdjhaaaDoorInts2
namespace Go.Proofs.YtedcleobhdjhaaaDoor
open Go.RowKit
set_option linter.unusedVariables false
set_option linter.unusedSimpArgs false
theorem zero_str (s : ByteArray) : (s.toList == [48]) = decide (byt s = [48]) := by
  have h := teq (X := [48]) (Byt.cons (by omega) Byt.nil) s
  have e : strOfNums [48] = ⟨#[48]⟩ := by decide +kernel
  have e2 : (⟨#[48]⟩ : ByteArray).toList = [48] := by decide +kernel
  rw [e, e2] at h
  rw [Bool.eq_iff_iff] at h ⊢
  simp only [beq_iff_eq, decide_eq_true_eq] at h ⊢
  exact ⟨fun a => (h.1 a.symm).symm, fun a => (h.2 a.symm).symm⟩
def R2 (x : Int × Int) (w : World) (e : Ending) (w' : World) : Prop := e = .returned (.tuple #[.int .i64 x.1, .int .i64 x.2]) ∧ w = w'
theorem size_one {s : ByteArray} (h : s.size = 1) (c : Int) (hc : (byt s).getD 0 0 = c) : byt s = [c] := by
  have hl := byt_len s
  rw [h] at hl
  match hb : byt s, hl with
  | [a], _ => rw [hb] at hc; simp at hc; rw [hc]
set_option maxRecDepth 100000 in
set_option maxHeartbeats 1000000 in
theorem rparseInt_neg (s : ByteArray) (w : World) (hs : s.size ≤ maxLen) (D : List Int) (hD : byt s = 45 :: D) :
    Calls Tryd.prog 27 #[.string s] w (R2 (parI (byt s)) w) := by
  unfold maxLen at hs
  have he := ext_tail s 45 D hD
  have hyD : Byt D := fun n hn => byt_byt s n (by rw [hD]; simp [hn])
  obtain ⟨T, hT⟩ : ∃ T, strOfNums D = T := ⟨_, rfl⟩
  have hbT : byt T = D := by rw [← hT, byt_str hyD]
  rw [hT] at he
  have hlD : T.size + 1 = s.size := by rw [← byt_len s, hD, ← byt_len T, hbT]; rfl
  have hS : 0 < s.size := by omega
  have hc0 : (s[0].toNat : Int) = 45 := by rw [← byt_at hS, hD]; rfl
  have gs0 : (0 : Int) < (s.size : Int) := by omega
  have hss := str_ne hS
  have hlD' : (T.size : Int) < (s.size : Int) := by omega
  have HS0 : Hid ((s.toList == [48]) = false) := by
    show _ = _
    rw [zero_str, hD]
    simp
  obtain ⟨R, hR⟩ : ∃ R, parI (byt s) = R := ⟨_, rfl⟩
  rw [hR]
  rw [hD, parI_neg, ← hbT] at hR
  have HR0 : Hid (okD (byt T) = false → R = (0, 1)) := fun h => by rw [← hR, h]; simp
  have HRZ : Hid (∀ {c : Int}, (byt T).getD 0 0 = c → c = 48 → R = (0, 1)) := fun {c} hc h48 => by
    rw [← hR]
    rw [if_neg]
    rintro ⟨h1, h2⟩
    obtain ⟨a, b, c', d⟩ := okD_parts h1
    exact h2 (digV_zero c' (d (hc.trans h48)) (hc.trans h48))
  have HR1 : Hid (okD (byt T) = true → (byt T).getD 0 0 ≠ 48 → R = (-digV (byt T), 0)) := fun h h0 => by
    obtain ⟨a, b, c', d⟩ := okD_parts h
    have := digV_pos c' b h0
    rw [← hR, if_pos ⟨h, by omega⟩]
  have HL := Lib.hid (byt_len T)
  clear hR hbT hT hyD hD hlD
  by_cases h0 : 0 < T.size
  · have hb := byt_at h0
    have g0 : (0 : Int) < (T.size : Int) := by omega
    have hse := str_ne h0
    have hz2 : ¬ T = ByteArray.empty := by rintro rfl; simp at h0
    by_cases hm : T.size ≤ 12
    · by_cases hz : (T[0].toNat : Int) = 48
      · have hr := HRZ.out hb hz
        subst hr
        have hs0 : (s.toList == [48]) = false := HS0.out
        clear hb
        go_enter Tryd.func27, Tryd.ntmps27
        go_wp2
        go_ret2
        exact ⟨rfl, rfl⟩
      · have hok := okD_yes (s := T) h0 hm (fun h => hz (hb.symm.trans h.1))
        have HZ : Hid ((byt T).getD 0 0 ≠ 48) := fun h => hz (hb.symm.trans h)
        have HOK := Lib.hid hok
        clear hok hb
        go_enter Tryd.func27, Tryd.ntmps27
        go_wp2
        go_loop [5, 6] (fun n i => ∃ k : Nat, k ≤ T.size ∧ i = .int .i64 k ∧ n = .int .i64 (digV ((byt T).take k)) ∧ Hid (((byt T).take k).all digB = true)) (fun _ i => T.size - (intOf i).toNat)
        case atStart => exact ⟨0, by omega, rfl, rfl, rfl⟩
        case round =>
          obtain ⟨k, hk, rfl, rfl, HA⟩ := hrel
          by_cases hlt : k < T.size
          · have hv := digV_lt (L := byt T) (k := k) (by omega) HA.out
            have hn := all_take (p := digB) (by rw [HL.out]; exact hlt) HA.out
            have hno := all_no (L := byt T) (p := digB) (k := k) (by rw [HL.out]; exact hlt)
            have hd := digV_at (L := byt T) (k := k) (by rw [HL.out]; exact hlt)
            rw [byt_at hlt] at hn hno hd
            have HN := Lib.hid hn
            have HNO := Lib.hid hno
            have HD := Lib.hid hd
            clear hn hno hd
            cases hp : inB (T[k].toNat : Int) 48 57
            · have hr : R = (0, 1) := HR0.out (by rw [HOK.out]; exact HNO.out hp)
              subst hr
              go_wp2_with (go_at_call 33; refine (between_any _ _ _ _).mono ?_; rintro e w' ⟨rfl, rfl⟩)
              go_ret2
              exact ⟨rfl, rfl⟩
            · have hc := digB_bd hp
              obtain ⟨c1, c2⟩ := hc
              have HP := Lib.hid hp
              go_wp2_with (go_at_call 33; refine (between_any _ _ _ _).mono ?_; rintro e w' ⟨rfl, rfl⟩)
              go_round
              case rel => exact ⟨k + 1, by omega, by go_num, by rw [HD.out], by rw [HN.out]; exact HP.out⟩
              case measure => simp [intOf]; omega
          · obtain rfl : k = T.size := by omega
            have ha := HA.out
            have hl' := HL.out
            rw [← hl', List.take_length] at ha
            have hr := HR1.out (by rw [HOK.out]; exact ha) HZ.out
            subst hr
            have e : (byt T).take T.size = byt T := by rw [← HL.out, List.take_length]
            have hv := digV_lt (L := byt T) (k := T.size) (by omega) HA.out
            have HE := Lib.hid e
            clear ha e hl'
            go_wp2
            go_ret2
            exact ⟨by rw [HE.out]; rfl, rfl⟩
    · have hr : R = (0, 1) := HR0.out (okD_no (fun h => hm h.2.1))
      subst hr
      clear hb
      go_enter Tryd.func27, Tryd.ntmps27
      go_wp2
      go_ret2
      exact ⟨rfl, rfl⟩
  · have hr : R = (0, 1) := HR0.out (okD_no (fun h => by omega))
    subst hr
    obtain rfl := size_zero T (by omega)
    go_enter Tryd.func27, Tryd.ntmps27
    go_wp2
    go_ret2
    exact ⟨rfl, rfl⟩
set_option maxRecDepth 100000 in
set_option maxHeartbeats 1000000 in
theorem rparseInt_pos (T : ByteArray) (w : World) (hs : T.size ≤ maxLen) (hD : ∀ D, byt T ≠ 45 :: D) :
    Calls Tryd.prog 27 #[.string T] w (R2 (parI (byt T)) w) := by
  unfold maxLen at hs
  obtain ⟨R, hR⟩ : ∃ R, parI (byt T) = R := ⟨_, rfl⟩
  rw [hR]
  rw [parI_pos hD] at hR
  have HR0 : Hid (okD (byt T) = false → R = (0, 1)) := fun h => by rw [← hR, h]; simp
  have HR1 : Hid (okD (byt T) = true → R = (digV (byt T), 0)) := fun h => by rw [← hR, if_pos h]
  have HL := Lib.hid (byt_len T)
  have H45 : Hid (∀ (h : 0 < T.size), ¬ (T[0].toNat : Int) = 45) := fun h h45 => by
    have hb := byt_at h
    cases hl : byt T with
    | nil => have := byt_len T; rw [hl] at this; simp at this; omega
    | cons a l =>
      rw [hl] at hb
      simp only [List.getD_cons_zero] at hb
      exact hD l (by rw [hl, hb, h45])
  clear hR hD
  by_cases h0 : 0 < T.size
  · have hb := byt_at h0
    have g0 : (0 : Int) < (T.size : Int) := by omega
    have hse := str_ne h0
    have h45 := H45.out h0
    have hz2 : ¬ T = ByteArray.empty := by rintro rfl; simp at h0
    by_cases hm : T.size ≤ 12
    · by_cases hz : (T[0].toNat : Int) = 48
      · by_cases h1 : T.size = 1
        · have hs0 : (T.toList == [48]) = true := by rw [zero_str, size_one h1 48 (hb.trans hz)]; rfl
          have hok := okD_yes (s := T) h0 hm (fun h => by omega)
          have HOK := Lib.hid hok
          clear hok hb
          have hm1 : (T.size : Int) ≤ 12 := by omega
          have H1 := Lib.hid h1
          clear h1
          go_enter Tryd.func27, Tryd.ntmps27
          go_wp2
          clear hz
          go_loop [5, 6] (fun n i => ∃ k : Nat, k ≤ T.size ∧ i = .int .i64 k ∧ n = .int .i64 (digV ((byt T).take k)) ∧ Hid (((byt T).take k).all digB = true)) (fun _ i => T.size - (intOf i).toNat)
          case atStart => exact ⟨0, by omega, rfl, rfl, rfl⟩
          case round =>
            obtain ⟨k, hk, rfl, rfl, HA⟩ := hrel
            by_cases hlt : k < T.size
            · have hv := digV_lt (L := byt T) (k := k) (by omega) HA.out
              have hn := all_take (p := digB) (by rw [HL.out]; exact hlt) HA.out
              have hno := all_no (L := byt T) (p := digB) (k := k) (by rw [HL.out]; exact hlt)
              have hd := digV_at (L := byt T) (k := k) (by rw [HL.out]; exact hlt)
              rw [byt_at hlt] at hn hno hd
              have HN := Lib.hid hn
              have HNO := Lib.hid hno
              have HD := Lib.hid hd
              clear hn hno hd
              cases hp : inB (T[k].toNat : Int) 48 57
              · have hr : R = (0, 1) := HR0.out (by rw [HOK.out]; exact HNO.out hp)
                subst hr
                go_wp2_with (go_at_call 33; refine (between_any _ _ _ _).mono ?_; rintro e w' ⟨rfl, rfl⟩)
                go_ret2
                exact ⟨rfl, rfl⟩
              · have hc := digB_bd hp
                obtain ⟨c1, c2⟩ := hc
                have HP := Lib.hid hp
                go_wp2_with (go_at_call 33; refine (between_any _ _ _ _).mono ?_; rintro e w' ⟨rfl, rfl⟩)
                go_round
                case rel => exact ⟨k + 1, by omega, by go_num, by rw [HD.out], by rw [HN.out]; exact HP.out⟩
                case measure => simp [intOf]; omega
            · obtain rfl : k = T.size := by omega
              have ha := HA.out
              have hl' := HL.out
              rw [← hl', List.take_length] at ha
              have hr := HR1.out (by rw [HOK.out]; exact ha)
              subst hr
              have e : (byt T).take T.size = byt T := by rw [← HL.out, List.take_length]
              have hv := digV_lt (L := byt T) (k := T.size) (by omega) HA.out
              have HE := Lib.hid e
              clear ha e hl'
              go_wp2
              go_ret2
              exact ⟨by rw [HE.out]; rfl, rfl⟩
        · have hr : R = (0, 1) := HR0.out (okD_no (fun h => h.2.2 ⟨hb.trans hz, by omega⟩))
          subst hr
          have hs0 : (T.toList == [48]) = false := by
            rw [zero_str]
            have : ¬ byt T = [48] := fun e => h1 (by rw [← byt_len, e]; rfl)
            simp [this]
          clear hb
          go_enter Tryd.func27, Tryd.ntmps27
          go_wp2
          go_ret2
          exact ⟨rfl, rfl⟩
      · have hok := okD_yes (s := T) h0 hm (fun h => hz (hb.symm.trans h.1))
        have HOK := Lib.hid hok
        clear hok hb
        go_enter Tryd.func27, Tryd.ntmps27
        go_wp2
        go_loop [5, 6] (fun n i => ∃ k : Nat, k ≤ T.size ∧ i = .int .i64 k ∧ n = .int .i64 (digV ((byt T).take k)) ∧ Hid (((byt T).take k).all digB = true)) (fun _ i => T.size - (intOf i).toNat)
        case atStart => exact ⟨0, by omega, rfl, rfl, rfl⟩
        case round =>
          obtain ⟨k, hk, rfl, rfl, HA⟩ := hrel
          by_cases hlt : k < T.size
          · have hv := digV_lt (L := byt T) (k := k) (by omega) HA.out
            have hn := all_take (p := digB) (by rw [HL.out]; exact hlt) HA.out
            have hno := all_no (L := byt T) (p := digB) (k := k) (by rw [HL.out]; exact hlt)
            have hd := digV_at (L := byt T) (k := k) (by rw [HL.out]; exact hlt)
            rw [byt_at hlt] at hn hno hd
            have HN := Lib.hid hn
            have HNO := Lib.hid hno
            have HD := Lib.hid hd
            clear hn hno hd
            cases hp : inB (T[k].toNat : Int) 48 57
            · have hr : R = (0, 1) := HR0.out (by rw [HOK.out]; exact HNO.out hp)
              subst hr
              go_wp2_with (go_at_call 33; refine (between_any _ _ _ _).mono ?_; rintro e w' ⟨rfl, rfl⟩)
              go_ret2
              exact ⟨rfl, rfl⟩
            · have hc := digB_bd hp
              obtain ⟨c1, c2⟩ := hc
              have HP := Lib.hid hp
              go_wp2_with (go_at_call 33; refine (between_any _ _ _ _).mono ?_; rintro e w' ⟨rfl, rfl⟩)
              go_round
              case rel => exact ⟨k + 1, by omega, by go_num, by rw [HD.out], by rw [HN.out]; exact HP.out⟩
              case measure => simp [intOf]; omega
          · obtain rfl : k = T.size := by omega
            have ha := HA.out
            have hl' := HL.out
            rw [← hl', List.take_length] at ha
            have hr := HR1.out (by rw [HOK.out]; exact ha)
            subst hr
            have e : (byt T).take T.size = byt T := by rw [← HL.out, List.take_length]
            have hv := digV_lt (L := byt T) (k := T.size) (by omega) HA.out
            have HE := Lib.hid e
            clear ha e hl'
            go_wp2
            go_ret2
            exact ⟨by rw [HE.out]; rfl, rfl⟩
    · have hr : R = (0, 1) := HR0.out (okD_no (fun h => hm h.2.1))
      subst hr
      clear hb
      go_enter Tryd.func27, Tryd.ntmps27
      go_wp2
      go_ret2
      exact ⟨rfl, rfl⟩
  · have hr : R = (0, 1) := HR0.out (okD_no (fun h => by omega))
    subst hr
    obtain rfl := size_zero T (by omega)
    go_enter Tryd.func27, Tryd.ntmps27
    go_wp2
    go_ret2
    exact ⟨rfl, rfl⟩
theorem rparseInt_any (s : ByteArray) (w : World) (hs : s.size ≤ maxLen) :
    Calls Tryd.prog 27 #[.string s] w fun e w' => e = .returned (.tuple #[.int .i64 (parI (byt s)).1, .int .i64 (parI (byt s)).2]) ∧ w = w' := by
  rcases opens 45 (byt s) with ⟨D, hD⟩ | hD
  · exact rparseInt_neg s w hs D hD
  · exact rparseInt_pos s w hs hD
end Go.Proofs.YtedcleobhdjhaaaDoor
