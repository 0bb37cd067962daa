/- The contracts of the reference's Fields and of sketchstorelaw4.same. -/
import Derived.Test.YtedcleobhdjhaaaDoorRLines
namespace Go.Proofs.YtedcleobhdjhaaaDoor
open Go.RowKit
set_option linter.unusedVariables false
set_option linter.unusedSimpArgs false
theorem one_ext (s : ByteArray) (k : Nat) (h : k < s.size) : s.extract k (k + 1) = strOfNums [(s[k].toNat : Int)] := by
  rw [ext_mid, mid_snoc _ k k (Nat.le_refl _) (by rw [byt_len]; exact h), mid_self, byt_at h]
  rfl
theorem one_run (s : ByteArray) (k : Nat) (h : k < s.size) (w : World) : (Instr.slice 9 (.string s) (some (.int .i64 k)) (some (.int .i64 ((k : Int) + 1))) none).run Tryd.prog w = .ok (.string (strOfNums [(s[k].toNat : Int)])) w := by
  rw [run_slice_string w _ _ _ _ (k : Int) ((k : Int) + 1) Tryd.underlying9 (by omega) (by omega) (by omega), ← one_ext s k h]
  have e : ((k : Int) + 1).toNat = k + 1 := by omega
  rw [Int.toNat_natCast, e]
theorem str_nil : strOfNums [] = ⟨#[]⟩ := rfl
theorem str_pos {L : List Int} (h : L ≠ []) : ¬ strOfNums L = ByteArray.empty ∧ ¬ (strOfNums L).toList = [] ∧ (strOfNums L).toList.isEmpty = false := by
  have hp : 0 < (strOfNums L).size := by
    rw [str_size]
    cases L with
    | nil => exact absurd rfl h
    | cons a l => simp
  exact ⟨(str_neB hp).1, (str_neB hp).2, str_ne hp⟩
set_option maxRecDepth 100000 in
set_option maxHeartbeats 2000000 in
theorem rfields_any (s : ByteArray) (w : World) (hs : s.size < 1000000) :
    Calls Tryd.prog 25 #[.string s] w (FldPost ((fieldsG [] (byt s)).map strOfNums) w) := by
  have HLN := Lib.hid (fields_len (byt s) [])
  have HL := Lib.hid (byt_len s)
  obtain ⟨Q, hQ⟩ : ∃ Q, (fieldsG [] (byt s)).map strOfNums = Q := ⟨_, rfl⟩
  rw [hQ]
  have hql : Q.length ≤ 1000000 := by rw [← hQ, List.length_map]; have := HLN.out; have := HL.out; omega
  have HQ := Lib.hid hQ
  clear hQ
  go_enter Tryd.func25, Tryd.ntmps25
  go_wp2
  go_loopw [3, 4, 5] (fun v t i wr => ∃ (k : Nat) (M : List ByteArray) (cur : List Int), k ≤ s.size ∧ cur.length ≤ k ∧ i = .int .i64 k ∧ t = .string (strOfNums cur) ∧ Hid (M ++ (fieldsG cur ((byt s).drop k)).map strOfNums = Q) ∧ Hid (OwnS w.heap.size M v wr) ∧ Hid (Below w.heap.size w wr)) (fun _ _ i _ => s.size - (intOf i).toNat)
  case atStart => exact ⟨0, [], [], by omega, by simp, rfl, rfl, HQ.out, OwnS.empty _ _, Below.refl _ _⟩
  case round =>
    obtain ⟨k, M, cur, hk, hcl, rfl, rfl, HM, HO, HB⟩ := hrel
    -- what stands behind the loop, at the last word
    by_cases hend : k < s.size ∧ ¬ (byt s).getD k 0 = 35
    · obtain ⟨hlt, hn35⟩ := hend
      rw [byt_at hlt] at hn35
      have g35 : ((s[k].toNat : Int) != 35) = true := by simp [hn35]
      have hd := drop_cons (byt s) k (by rw [HL.out]; exact hlt)
      rw [byt_at hlt] at hd
      have hq := HM.out
      rw [hd, fieldsG, if_neg hn35] at hq
      by_cases h32 : (s[k].toNat : Int) = 32
      · rw [if_pos h32, List.map_append] at hq
        by_cases hc : cur = []
        · subst hc
          have HQ2 := Lib.hid hq
          clear hq hd
          rw [str_nil]
          go_wp2
          go_roundw
          case rel => exact ⟨k + 1, M, [], by omega, by simp, by go_num, rfl, Lib.hid (by rw [← HQ2.out]; simp [emitL]), HO, HB⟩
          case measure => simp [intOf]; omega
        · obtain ⟨z1, z2, z3⟩ := str_pos hc
          rw [emitL, if_neg hc, List.map_singleton] at hq
          have hML : M.length + 1 ≤ 10000000 := by
            have := congrArg List.length hq
            rw [List.length_append, List.length_append, List.length_singleton] at this
            omega
          have HQ2 := Lib.hid hq
          clear hq hd hcl hc
          generalize strOfNums cur = T at *
          go_wp2_with (at_builtin; refine wp_appS rfl _ _ _ rfl w.heap.size M [T] _ _ rfl rfl (HO.out.alloc _) (OwnS.one T _).rd.src ?c2 ?c3 ?_)
          case c2 => have := HB.out.size; simp <;> omega
          case c3 => simp <;> omega
          · intro v' w2 ho2 hb2
            have HB2 := Lib.hid ((HB.out.alloc HB.out.size _).trans hb2)
            have HO2 := Lib.hid ho2
            clear ho2 hb2 h32 z1 z2 z3
            go_wp2
            go_roundw
            case rel => exact ⟨k + 1, M ++ [T], [], by omega, by simp, by go_num, rfl, Lib.hid (by rw [← HQ2.out]; simp), HO2, HB2⟩
            case measure => simp [intOf]; omega
      · rw [if_neg h32] at hq
        have h32' : ((s[k].toNat : Int) != 32) = true := by simp [h32]
        have he := one_run s k hlt
        have ha := add_run cur [(s[k].toNat : Int)] (by simp <;> omega)
        have HQ2 := Lib.hid hq
        clear hq hd
        go_wp2
        go_roundw
        case rel => exact ⟨k + 1, M, cur ++ [(s[k].toNat : Int)], by omega, by simp <;> omega, by go_num, rfl, HQ2, HO, HB⟩
        case measure => simp [intOf]; omega
    · have hfin : fieldsG cur ((byt s).drop k) = emitL cur := by
        by_cases hlt : k < s.size
        · have h35 : (byt s).getD k 0 = 35 := Classical.not_not.1 (fun hc => hend ⟨hlt, hc⟩)
          rw [drop_cons (byt s) k (by rw [HL.out]; exact hlt), h35, fieldsG, if_pos rfl]
        · have : (byt s).drop k = [] := List.drop_of_length_le (by rw [HL.out]; omega)
          rw [this, fieldsG]
      have hq := HM.out
      rw [hfin] at hq
      clear hfin
      have hstop : ¬ k < s.size ∨ ∃ h : k < s.size, (s[k].toNat : Int) = 35 := by
        by_cases hlt : k < s.size
        · exact .inr ⟨hlt, by rw [← byt_at hlt]; exact Classical.not_not.1 (fun hc => hend ⟨hlt, hc⟩)⟩
        · exact .inl hlt
      clear hend
      by_cases hc : cur = []
      · subst hc
        rw [emitL, if_pos rfl, List.map_nil, List.append_nil] at hq
        subst hq
        rw [str_nil]
        rcases hstop with hlt | ⟨hlt, h35⟩
        all_goals
          go_wp2
          go_ret
          exact ⟨_, rfl, HO.out, HB.out⟩
      · obtain ⟨z1, z2, z3⟩ := str_pos hc
        rw [emitL, if_neg hc, List.map_singleton] at hq
        have hML : M.length + 1 ≤ 10000000 := by
          have := congrArg List.length hq
          rw [List.length_append, List.length_singleton] at this
          omega
        have HQ2 := Lib.hid hq
        clear hq hcl hc
        generalize strOfNums cur = T at *
        rcases hstop with hlt | ⟨hlt, h35⟩
        · go_wp2_with (at_builtin; refine wp_appS rfl _ _ _ rfl w.heap.size M [T] _ _ rfl rfl (HO.out.alloc _) (OwnS.one T _).rd.src ?c4 ?c5 ?_)
          case c4 => have := HB.out.size; simp <;> omega
          case c5 => simp <;> omega
          · intro v' w2 ho2 hb2
            have HB2 := Lib.hid ((HB.out.alloc HB.out.size _).trans hb2)
            have HO2 := Lib.hid ho2
            clear ho2 hb2
            have hq2 := HQ2.out
            subst hq2
            go_wp2
            go_ret
            exact ⟨_, rfl, HO2.out, HB2.out⟩
        · go_wp2_with (at_builtin; refine wp_appS rfl _ _ _ rfl w.heap.size M [T] _ _ rfl rfl (HO.out.alloc _) (OwnS.one T _).rd.src ?c6 ?c7 ?_)
          case c6 => have := HB.out.size; simp <;> omega
          case c7 => simp <;> omega
          · intro v' w2 ho2 hb2
            have HB2 := Lib.hid ((HB.out.alloc HB.out.size _).trans hb2)
            have HO2 := Lib.hid ho2
            clear ho2 hb2
            have hq2 := HQ2.out
            subst hq2
            go_wp2
            go_ret
            exact ⟨_, rfl, HO2.out, HB2.out⟩
set_option maxRecDepth 100000 in
set_option maxHeartbeats 1000000 in
theorem same_yes (X : List ByteArray) (va vb : Value) (w : World) (ha : RdS X va w) (hb : RdS X vb w) :
    Calls Tryd.prog 23 #[va, vb] w fun e w' => e = .returned (.bool true) ∧ Below w.heap.size w w' := by
  obtain ⟨a, ca, rfl, h1, h2, h3⟩ := ha
  obtain ⟨b, cb, rfl, h4, h5, h6⟩ := hb
  unfold maxLen at h2 h5
  have HA := Lib.hid h3
  have HB := Lib.hid h6
  clear h3 h6
  go_enter Tryd.func23, Tryd.ntmps23
  go_wp2
  go_loopw [5] (fun i wr => ∃ (k : Nat), k ≤ X.length ∧ i = .int .i64 k ∧ Hid (Below w.heap.size w wr)) (fun i _ => X.length - (intOf i).toNat)
  case atStart => exact ⟨0, by omega, rfl, Below.refl _ _⟩
  case round =>
    obtain ⟨k, hk, rfl, HW⟩ := hrel
    by_cases hlt : k < X.length
    · obtain ⟨b1, o1, rfl, l1, c1⟩ := HA.out (by omega)
      obtain ⟨b2, o2, rfl, l2, c2⟩ := HB.out (by omega)
      have d1 := (HW.out.cell (p := ⟨b1, o1 + k, none⟩) l1).trans (c1 k hlt)
      have d2 := (HW.out.cell (p := ⟨b2, o2 + k, none⟩) l2).trans (c2 k hlt)
      clear c1 c2
      generalize X.getD k ByteArray.empty = x at *
      go_wp2
      go_quiet (fail)
      go_wp2
      go_roundw
      case rel => exact ⟨k + 1, by omega, by go_num, Lib.hid (below_drewN HW.out _)⟩
      case measure => simp [intOf]; omega
    · obtain rfl : k = X.length := by omega
      go_wp2
      go_ret
      exact ⟨rfl, HW.out⟩
end Go.Proofs.YtedcleobhdjhaaaDoor
