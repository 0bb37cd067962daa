/- The contracts of the reference's Lines and Fields, and of sketchstorelaw4.same. -/
import Derived.Test.YtedcleobhdjhaaaDoorLines
namespace Go.Proofs.YtedcleobhdjhaaaDoor
open Go.RowKit
set_option linter.unusedVariables false
set_option linter.unusedSimpArgs false
def midL (L : List Int) (f k : Nat) : List Int := (L.drop f).take (k - f)
theorem mid_self (L : List Int) (k : Nat) : midL L k k = [] := by simp [midL]
theorem mid_snoc (L : List Int) (f k : Nat) (h1 : f ≤ k) (h2 : k < L.length) : midL L f (k + 1) = midL L f k ++ [L.getD k 0] := by
  unfold midL
  have e : k + 1 - f = (k - f) + 1 := by omega
  rw [e, List.take_succ_eq_append_getElem (by rw [List.length_drop]; omega)]
  congr 2
  rw [List.getElem_drop]
  have : L.getD k 0 = L[k] := by simp [List.getD, h2]
  rw [this]
  congr 1
  omega
theorem drop_cons (L : List Int) (k : Nat) (h : k < L.length) : L.drop k = L.getD k 0 :: L.drop (k + 1) := by
  rw [List.drop_eq_getElem_cons h]
  simp [List.getD, h]
theorem ext_mid (s : ByteArray) (f k : Nat) : s.extract f k = strOfNums (midL (byt s) f k) := by
  apply byt_inj
  have hy : Byt (midL (byt s) f k) := ((byt_byt s).drop _).take _
  rw [byt_extract, byt_str hy]
  rfl
theorem mid_all (L : List Int) (f : Nat) : midL L f L.length = L.drop f := by
  unfold midL
  rw [List.take_of_length_le (by simp)]
set_option maxRecDepth 100000 in
set_option maxHeartbeats 2000000 in
theorem rlines_any (s : ByteArray) (w : World) (hs : s.size ≤ maxLen) :
    Calls Tryd.prog 22 #[.string s] w (LinPost (linE (byt s)) (linL (byt s)) w) := by
  unfold maxLen at hs
  have hL := byt_len s
  by_cases h1 : 65536 < s.size
  · have e1 : linE (byt s) = 11 := by unfold linE; rw [hL, if_pos h1]
    have e2 : linL (byt s) = [] := by unfold linL; rw [e1]; rfl
    rw [e1, e2]
    clear hL e1 e2
    go_enter Tryd.func22, Tryd.ntmps22
    go_wp2
    go_ret2
    exact ⟨_, rfl, OwnS.empty _ _, Below.refl _ _⟩
  · have HE : Hid ((byt s).all texB = false → linE (byt s) = 1 ∧ linL (byt s) = []) := fun hT => by
      have e1 : linE (byt s) = 1 := by unfold linE; rw [hL, if_neg h1, if_pos hT]
      exact ⟨e1, by unfold linL; rw [e1]; rfl⟩
    have HE2 : Hid ((byt s).all texB = true → linE (byt s) = 0 ∧ linL (byt s) = (linesG [] (byt s)).map strOfNums) := fun hT => by
      have e1 : linE (byt s) = 0 := by unfold linE; rw [hL, if_neg h1, hT]; rfl
      exact ⟨e1, by unfold linL; rw [e1]; rfl⟩
    have HLN := Lib.hid (lines_len (byt s) [])
    have HL := Lib.hid hL
    clear hL
    generalize linE (byt s) = E at *
    generalize linL (byt s) = Q at *
    go_enter Tryd.func22, Tryd.ntmps22
    go_wp2
    go_loop [4] (fun i => ∃ k : Nat, k ≤ s.size ∧ i = .int .i64 k ∧ Hid (((byt s).take k).all texB = true)) (fun i => s.size - (intOf i).toNat)
    case atStart => exact ⟨0, by omega, rfl, rfl⟩
    case round =>
      obtain ⟨k, hk, rfl, HA⟩ := hrel
      by_cases hlt : k < s.size
      · have hn := all_take (p := texB) (by rw [HL.out]; exact hlt) HA.out
        have hno := all_no (L := byt s) (p := texB) (k := k) (by rw [HL.out]; exact hlt)
        rw [byt_at hlt] at hn hno
        have HN := Lib.hid hn
        have HNO := Lib.hid hno
        clear hn hno
        by_cases hp : texB (s[k].toNat : Int) = true
        · by_cases h10 : (s[k].toNat : Int) = 10
          · have HP := Lib.hid hp
            clear hp
            go_wp2_with (go_at_call 33; refine (between_any _ _ _ _).mono ?_; rintro e w' ⟨rfl, rfl⟩)
            go_round
            case rel => exact ⟨k + 1, by omega, by go_num, Lib.hid (by rw [HN.out]; exact HP.out)⟩
            case measure => simp [intOf]; omega
          · have hi : inB (s[k].toNat : Int) 32 126 = true := by
              have := hp
              unfold texB at this
              rw [beq_eq_false_iff_ne.2 h10] at this
              simpa using this
            have h10' : ((s[k].toNat : Int) != 10) = true := by simp [h10]
            have HP := Lib.hid hp
            clear hp
            go_wp2_with (go_at_call 33; refine (between_any _ _ _ _).mono ?_; rintro e w' ⟨rfl, rfl⟩)
            go_round
            case rel => exact ⟨k + 1, by omega, by go_num, Lib.hid (by rw [HN.out]; exact HP.out)⟩
            case measure => simp [intOf]; omega
        · have hpf : texB (s[k].toNat : Int) = false := by simpa using hp
          have h10 : ¬ (s[k].toNat : Int) = 10 := by
            intro h
            rw [h] at hp
            exact hp (by decide)
          have hi : inB (s[k].toNat : Int) 32 126 = false := by
            have := hpf
            unfold texB at this
            rw [beq_eq_false_iff_ne.2 h10] at this
            simpa using this
          have h10' : ((s[k].toNat : Int) != 10) = true := by simp [h10]
          obtain ⟨e1, e2⟩ := HE.out (HNO.out hpf)
          subst e1 e2
          clear hp hpf
          go_wp2_with (go_at_call 33; refine (between_any _ _ _ _).mono ?_; rintro e w' ⟨rfl, rfl⟩)
          go_ret2
          exact ⟨_, rfl, OwnS.empty _ _, Below.refl _ _⟩
      · obtain rfl : k = s.size := by omega
        have ha := HA.out
        rw [← HL.out, List.take_length] at ha
        obtain ⟨e1, e2⟩ := HE2.out ha
        subst e1
        have hql : Q.length ≤ 65537 := by rw [e2, List.length_map]; have := HLN.out; have := HL.out; omega
        have HQ := Lib.hid e2
        clear ha e2
        go_wp2
        go_loopw [5, 6, 7] (fun v fr i wr => ∃ (f k : Nat) (M : List ByteArray), k ≤ s.size ∧ f ≤ k ∧ i = .int .i64 k ∧ fr = .int .i64 f ∧ Hid (M ++ (linesG (midL (byt s) f k) ((byt s).drop k)).map strOfNums = Q) ∧ Hid (OwnS w.heap.size M v wr) ∧ Hid (Below w.heap.size w wr)) (fun _ _ i _ => s.size - (intOf i).toNat)
        case atStart => exact ⟨0, 0, [], by omega, by omega, rfl, rfl, HQ.out.symm, OwnS.empty _ _, Below.refl _ _⟩
        case round =>
          obtain ⟨f, k, M, hk, hfk, rfl, rfl, HM, HO, HB⟩ := hrel
          by_cases hlt : k < s.size
          · have hd := drop_cons (byt s) k (by rw [HL.out]; exact hlt)
            have hsn := mid_snoc (byt s) f k hfk (by rw [HL.out]; exact hlt)
            rw [byt_at hlt] at hd hsn
            have hq := HM.out
            rw [hd, linesG] at hq
            by_cases h10 : (s[k].toNat : Int) = 10
            · rw [if_pos h10, List.map_cons, ← ext_mid] at hq
              have hML : M.length + 1 ≤ 100000 := by
                have := congrArg List.length hq
                rw [List.length_append, List.length_cons] at this
                omega
              have HQ2 := Lib.hid hq
              clear hq hd hsn
              obtain ⟨X, hX⟩ : ∃ X, s.extract f k = X := ⟨_, rfl⟩
              have HX := Lib.hid hX
              go_wp2_with (at_builtin; refine wp_appS rfl _ _ _ rfl w.heap.size M [X] _ _ rfl rfl (HO.out.alloc _) (OwnS.one X _).rd.src ?c2 ?c3 ?_)
              case c2 => have := HB.out.size; simp <;> omega
              case c3 => simp <;> omega
              · intro v' w2 ho2 hb2
                have HB2 := Lib.hid ((HB.out.alloc HB.out.size _).trans hb2)
                have HO2 := Lib.hid ho2
                clear ho2 hb2 hX h10
                go_wp2
                go_roundw
                case rel => exact ⟨k + 1, k + 1, M ++ [X], by omega, by omega, by go_num, by go_num, Lib.hid (by rw [← HQ2.out, HX.out, mid_self]; simp), HO2, HB2⟩
                case measure => simp [intOf]; omega
            · rw [if_neg h10, ← hsn] at hq
              have HQ2 := Lib.hid hq
              have h10' : ((s[k].toNat : Int) == 10) = false := beq_eq_false_iff_ne.2 h10
              clear hq hd hsn
              go_wp2
              go_roundw
              case rel => exact ⟨f, k + 1, M, by omega, by omega, by go_num, rfl, HQ2, HO, HB⟩
              case measure => simp [intOf]; omega
          · obtain rfl : k = s.size := by omega
            have hq := HM.out
            have em : midL (byt s) f s.size = (byt s).drop f := by rw [← HL.out, mid_all]
            rw [show (byt s).drop s.size = [] by rw [← HL.out, List.drop_length], linesG, em] at hq
            by_cases hf : f < s.size
            · have hne : ¬ (byt s).drop f = [] := fun e => by
                have := congrArg List.length e
                rw [List.length_drop, HL.out] at this
                simp at this
                omega
              rw [emitL, if_neg hne, List.map_singleton, ← em, ← ext_mid] at hq
              have hML : M.length + 1 ≤ 100000 := by
                have := congrArg List.length hq
                rw [List.length_append, List.length_cons] at this
                omega
              have HQ2 := Lib.hid hq
              clear hq em hne
              obtain ⟨X, hX⟩ : ∃ X, s.extract f s.size = X := ⟨_, rfl⟩
              have HX := Lib.hid hX
              go_wp2_with (at_builtin; refine wp_appS rfl _ _ _ rfl w.heap.size M [X] _ _ rfl rfl (HO.out.alloc _) (OwnS.one X _).rd.src ?c4 ?c5 ?_)
              case c4 => have := HB.out.size; simp <;> omega
              case c5 => simp <;> omega
              · intro v' w2 ho2 hb2
                have HB2 := Lib.hid ((HB.out.alloc HB.out.size _).trans hb2)
                have HO2 := Lib.hid ho2
                clear ho2 hb2 hX
                have hq2 := HQ2.out
                rw [HX.out] at hq2
                subst hq2
                go_wp2
                go_ret2
                exact ⟨_, rfl, HO2.out, HB2.out⟩
            · have he : (byt s).drop f = [] := List.drop_of_length_le (by rw [HL.out]; omega)
              rw [he, emitL, if_pos rfl, List.map_nil, List.append_nil] at hq
              subst hq
              clear he em
              go_wp2
              go_ret2
              exact ⟨_, rfl, HO.out, HB.out⟩
end Go.Proofs.YtedcleobhdjhaaaDoor
