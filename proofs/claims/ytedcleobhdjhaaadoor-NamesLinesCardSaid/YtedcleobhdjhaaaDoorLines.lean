/- The contracts of names.Lines and names.Fields. -/
import Derived.Test.YtedcleobhdjhaaaDoorCut
namespace Go.Proofs.YtedcleobhdjhaaaDoor
open Go.RowKit
set_option linter.unusedVariables false
set_option linter.unusedSimpArgs false
theorem emit_len (cur : List Int) : (emitL cur).length ≤ 1 := by unfold emitL; split <;> simp
theorem lines_len : ∀ (L cur : List Int), (linesG cur L).length ≤ L.length + 1
  | [], cur => by have := emit_len cur; rw [linesG]; simp <;> omega
  | c :: r, cur => by
    rw [linesG]
    split
    · have := lines_len r []; simp <;> omega
    · have := lines_len r (cur ++ [c]); simp <;> omega
theorem words_len : ∀ (L cur : List Int), (wordsG cur L).length ≤ L.length + 1
  | [], cur => by have := emit_len cur; rw [wordsG]; simp <;> omega
  | c :: r, cur => by
    rw [wordsG]
    split
    · have := words_len r []; have := emit_len cur; simp <;> omega
    · have := words_len r (cur ++ [c]); simp <;> omega
theorem fields_len : ∀ (L cur : List Int), (fieldsG cur L).length ≤ L.length + 1
  | [], cur => by have := emit_len cur; rw [fieldsG]; simp <;> omega
  | c :: r, cur => by
    rw [fieldsG]
    split
    · have := emit_len cur; simp <;> omega
    · split
      · have := fields_len r []; have := emit_len cur; simp <;> omega
      · have := fields_len r (cur ++ [c]); simp <;> omega
def linE (L : List Int) : Int := if 65536 < L.length then 11 else if L.all texB = false then 1 else 0
def linL (L : List Int) : List ByteArray := if linE L = 0 then (linesG [] L).map strOfNums else []
def LinPost (E : Int) (Q : List ByteArray) (w : World) (e : Ending) (w' : World) : Prop := ∃ v, e = .returned (.tuple #[v, .int .i64 E]) ∧ OwnS w.heap.size Q v w' ∧ Below w.heap.size w w'
theorem size_pos {s : ByteArray} (h : byt s ≠ []) : 0 < s.size := by
  rw [← byt_len]
  cases hb : byt s with
  | nil => exact absurd hb h
  | cons a l => simp
theorem str_neB {s : ByteArray} (h : 0 < s.size) : ¬ s = ByteArray.empty ∧ ¬ s.toList = [] := by
  have hse := str_ne h
  exact ⟨by rintro rfl; simp at h, by intro h; rw [h] at hse; simp at hse⟩
set_option maxRecDepth 100000 in
set_option maxHeartbeats 1000000 in
theorem lines_any (s : ByteArray) (w : World) (hs : s.size ≤ maxLen) :
    Calls Tryd.prog 21 #[.string s] w (LinPost (linE (byt s)) (linL (byt s)) w) := by
  have he := fun w => each_any _ _ tells_text s w hs
  unfold maxLen at hs
  have hL := byt_len s
  by_cases h1 : 65536 < s.size
  · have e1 : linE (byt s) = 11 := by unfold linE; rw [hL, if_pos h1]
    have e2 : linL (byt s) = [] := by unfold linL; rw [e1]; rfl
    rw [e1, e2]
    clear hL he e1 e2
    go_enter Tryd.func21, Tryd.ntmps21
    go_wp2
    go_ret2
    exact ⟨_, rfl, OwnS.empty _ _, Below.refl _ _⟩
  · cases hT : (byt s).all texB
    · have e1 : linE (byt s) = 1 := by unfold linE; rw [hL, if_neg h1, if_pos hT]
      have e2 : linL (byt s) = [] := by unfold linL; rw [e1]; rfl
      rw [e1, e2]
      rw [hT] at he
      clear hL e1 e2 hT
      go_enter Tryd.func21, Tryd.ntmps21
      go_wp2_with (go_at_call 31; refine (he _).mono ?_; rintro e w' ⟨rfl, rfl⟩)
      go_ret2
      exact ⟨_, rfl, OwnS.empty _ _, Below.refl _ _⟩
    · have e1 : linE (byt s) = 0 := by unfold linE; rw [hL, if_neg h1, hT]; rfl
      have e2 : linL (byt s) = (linesG [] (byt s)).map strOfNums := by unfold linL; rw [e1]; rfl
      have hlen := lines_len (byt s) []
      rw [hL] at hlen
      rw [e1, e2]
      rw [hT] at he
      have HS := Lib.hid hL
      clear hL e1 e2 hT
      obtain ⟨Q, hQ⟩ : ∃ Q, (linesG [] (byt s)).map strOfNums = Q := ⟨_, rfl⟩
      rw [hQ]
      have hql : Q.length ≤ s.size + 1 := by rw [← hQ, List.length_map]; exact hlen
      have HQ := Lib.hid hQ
      clear hQ hlen
      have hq65 : Q.length ≤ 65537 := by omega
      clear hql
      go_enter Tryd.func21, Tryd.ntmps21
      go_wp2_with (go_at_call 31; refine (he _).mono ?_; rintro e w' ⟨rfl, rfl⟩)
      go_loopw [0, 4] (fun r v wr => ∃ (t : ByteArray) (M : List ByteArray), r = .string t ∧ t.size ≤ 65536 ∧ Hid (M ++ (linesG [] (byt t)).map strOfNums = Q) ∧ Hid (OwnS w.heap.size M v wr) ∧ Hid (Below w.heap.size w wr)) (fun r _ _ => match r with | .string t => t.size | _ => 0)
      case atStart => exact ⟨s, [], rfl, by omega, HQ.out, OwnS.empty _ _, Below.refl _ _⟩
      case round =>
        obtain ⟨t, M, rfl, ht, HM, HO, HB⟩ := hrel
        by_cases hp : 0 < t.size
        · obtain ⟨z2, z3⟩ := str_neB hp
          have z1 := str_ne hp
          have hML : M.length + 1 ≤ 100000 := by
            have := congrArg List.length HM.out
            rw [List.length_append] at this
            omega
          rcases first_at 10 (byt t) with hm | ⟨A, R, hsp, hA⟩
          · have hc := fun w => cut_miss t 10 hm w
            have hne : byt t ≠ [] := fun e => by have := byt_len t; rw [e] at this; simp at this; omega
            have hq := HM.out
            rw [linesG_miss _ _ hm, List.nil_append, emitL, if_neg hne, List.map_singleton, str_byt] at hq
            have HQ2 := Lib.hid hq
            clear hq hm hne
            go_wp2_with (first
              | (go_at_call 42; refine (hc _).mono ?_; rintro e w1 ⟨rfl, hb1⟩; have HB1 := Lib.hid (HB.out.trans (hb1.mono HB.out.size)); have HO1 := Lib.hid (HO.out.below hb1); clear hb1)
              | (at_builtin; refine wp_appS rfl _ _ _ rfl w.heap.size M [t] _ _ rfl rfl (HO1.out.alloc _) (OwnS.one t _).rd.src ?c2 ?c3 ?_))
            case c2 => have := HB1.out.size; simp <;> omega
            case c3 => simp <;> omega
            · intro v' w2 ho2 hb2
              have HB2 := Lib.hid ((HB1.out.alloc HB1.out.size _).trans hb2)
              have HO2 := Lib.hid ho2
              clear ho2 hb2
              go_wp2
              go_roundw
              case rel => exact ⟨⟨#[]⟩, M ++ [t], rfl, by simp [ByteArray.size], Lib.hid (by rw [← HQ2.out]; simp [byt, linesG, emitL]), HO2, HB2⟩
              case measure => exact Nat.lt_of_le_of_lt (Nat.le_of_eq rfl) hp
          · have hc := fun w => cut_hit t 10 A R hsp hA w (by unfold maxLen; omega)
            have hyR : Byt R := fun n hn => byt_byt t n (by rw [hsp]; simp [hn])
            have hq := HM.out
            rw [hsp, linesG_hit _ _ _ hA, List.nil_append, List.map_cons] at hq
            have HQ2 := Lib.hid hq
            have hlt : A.length + 1 + R.length = t.size := by rw [← byt_len, hsp]; simp; omega
            have hrs : (strOfNums R).size < t.size := by rw [str_size]; omega
            have hbr := byt_str hyR
            have HBR := Lib.hid hbr
            clear hq hA hsp hyR hlt hbr
            generalize strOfNums R = SR at *
            generalize strOfNums A = SA at *
            go_wp2_with (first
              | (go_at_call 42; refine (hc _).mono ?_; rintro e w1 ⟨rfl, hb1⟩; have HB1 := Lib.hid (HB.out.trans (hb1.mono HB.out.size)); have HO1 := Lib.hid (HO.out.below hb1); clear hb1)
              | (at_builtin; refine wp_appS rfl _ _ _ rfl w.heap.size M [SA] _ _ rfl rfl (HO1.out.alloc _) (OwnS.one SA _).rd.src ?c4 ?c5 ?_))
            case c4 => have := HB1.out.size; simp <;> omega
            case c5 => simp <;> omega
            · intro v' w2 ho2 hb2
              have HB2 := Lib.hid ((HB1.out.alloc HB1.out.size _).trans hb2)
              have HO2 := Lib.hid ho2
              clear ho2 hb2
              go_wp2
              go_roundw
              case rel => exact ⟨SR, M ++ [SA], rfl, by omega, Lib.hid (by rw [← HQ2.out, HBR.out]; simp), HO2, HB2⟩
              case measure => simp <;> omega
        · obtain rfl := size_zero t (by omega)
          have hq := HM.out
          have e0 : byt ByteArray.empty = [] := rfl
          rw [e0, linesG, emitL, if_pos rfl, List.map_nil, List.append_nil] at hq
          subst hq
          clear e0
          go_wp2
          go_ret2
          exact ⟨_, rfl, HO.out, HB.out⟩
def FldPost (Q : List ByteArray) (w : World) (e : Ending) (w' : World) : Prop := ∃ v, e = .returned v ∧ OwnS w.heap.size Q v w' ∧ Below w.heap.size w w'
/-- What is in front of the comment. -/
theorem code_cut (s : ByteArray) (w : World) (hs : s.size ≤ maxLen) : ∃ code rest b, code.size ≤ s.size ∧ fieldsG [] (byt s) = wordsG [] (byt code) ∧
    ∀ w, Calls Tryd.prog 42 #[.string s, .string ⟨#[35]⟩] w fun e w' => e = .returned (.tuple #[.string code, .string rest, .bool b]) ∧ Below w.heap.size w w' := by
  rcases first_at 35 (byt s) with hm | ⟨A, R, hsp, hA⟩
  · exact ⟨s, _, _, Nat.le_refl _, fieldsG_miss _ _ hm, fun w => cut_miss s 35 hm w⟩
  · have hyA : Byt A := fun n hn => byt_byt s n (by rw [hsp]; simp [hn])
    refine ⟨strOfNums A, _, _, ?_, ?_, fun w => cut_hit s 35 A R hsp hA w hs⟩
    · rw [str_size, ← byt_len, hsp]; simp
    · rw [hsp, fieldsG_hit _ _ _ hA, byt_str hyA]
theorem filter_take (P : List ByteArray) (k : Nat) (h : k < P.length) :
    (P.take (k + 1)).filter (fun x => decide (byt x ≠ [])) = (P.take k).filter (fun x => decide (byt x ≠ [])) ++ if byt (P.getD k ByteArray.empty) = [] then [] else [P.getD k ByteArray.empty] := by
  have e : P.getD k ByteArray.empty = P[k] := by simp [List.getD, h]
  rw [List.take_succ_eq_append_getElem h, List.filter_append, e]
  congr 1
  by_cases hb : byt P[k] = [] <;> simp [hb]
theorem filter_words (s : ByteArray) (k : Nat) (h : s.data.toList.count 32 ≤ k) : (Lib.splitB ⟨#[32]⟩ 0 k s).filter (fun x => decide (byt x ≠ [])) = (wordsG [] (byt s)).map strOfNums := by
  rw [← split_words k s h]
  generalize Lib.splitB ⟨#[32]⟩ 0 k s = P
  induction P with
  | nil => rfl
  | cons a P ih =>
    rw [List.map_cons, List.filter_cons, List.filter_cons, ih]
    by_cases hb : byt a = []
    · simp [hb]
    · simp [hb, str_byt]
set_option maxRecDepth 100000 in
set_option maxHeartbeats 1000000 in
theorem fields_any (s : ByteArray) (w : World) (hs : s.size < 1000000) :
    Calls Tryd.prog 24 #[.string s] w (FldPost ((fieldsG [] (byt s)).map strOfNums) w) := by
  obtain ⟨code, rest, b, hcs, hfw, hcut⟩ := code_cut s w (by unfold maxLen; omega)
  have hsp := fun w => split_any code 32 w (by omega)
  have hfil := filter_words code _ (Nat.le_refl (code.data.toList.count 32))
  have hlen := Lib.splitB_all ⟨#[32]⟩ (Nat.le_refl 1) 0 _ code (countB_byte code 32)
  have hcl : code.data.toList.count 32 ≤ code.size := by rw [Lib.size_eq]; exact List.count_le_length
  rw [hfw, ← hfil]
  clear hfw hfil
  generalize Lib.splitB ⟨#[32]⟩ 0 (code.data.toList.count 32) code = P at *
  obtain ⟨Q, hQ⟩ : ∃ Q, P.filter (fun x => decide (byt x ≠ [])) = Q := ⟨_, rfl⟩
  rw [hQ]
  have hpl : P.length ≤ 1000001 := by omega
  have HQ := Lib.hid hQ
  clear hQ hlen hcl
  go_enter Tryd.func24, Tryd.ntmps24
  go_wp2_with (first
    | (go_at_call 42; refine (hcut _).mono ?_; rintro e w1 ⟨rfl, hb1⟩)
    | (go_at_call 43; refine (hsp _).mono ?_; rintro e w2 ⟨v2, rfl, hr2, hb2⟩; obtain ⟨a, cap, rfl, hr3, hr4, hr5⟩ := hr2; have HB2 := Lib.hid (hb1.trans (hb2.mono hb1.size)); clear hb1 hb2))
  unfold maxLen at hr4
  have HR := Lib.hid hr5
  clear hr5 hcut hsp
  go_loopw [6, 18] (fun v i wr => ∃ (k : Nat), k ≤ P.length ∧ i = .int .i64 k ∧ Hid (OwnS w2.heap.size ((P.take k).filter (fun x => decide (byt x ≠ []))) v wr) ∧ Hid (Below w2.heap.size w2 wr)) (fun _ i _ => P.length - (intOf i).toNat)
  case atStart => exact ⟨0, by omega, rfl, OwnS.empty _ _, Below.refl _ _⟩
  case round =>
    obtain ⟨k, hk, rfl, HO, HB3⟩ := hrel
    by_cases hlt : k < P.length
    · obtain ⟨b0, off, rfl, hblt, hc⟩ := HR.out (by omega)
      have hck := (HB3.out.cell (p := ⟨b0, off + k, none⟩) hblt).trans (hc k hlt)
      have HF := Lib.hid (filter_take P k hlt)
      have hfl : ((P.take k).filter (fun x => decide (byt x ≠ []))).length ≤ 1000001 := Nat.le_trans (List.length_filter_le _ _) (by rw [List.length_take]; omega)
      have HFL := Lib.hid hfl
      clear hc hfl
      generalize (P.take k).filter (fun x => decide (byt x ≠ [])) = M at *
      generalize P.getD k ByteArray.empty = x at *
      by_cases hp : 0 < x.size
      · obtain ⟨z2, z3⟩ := str_neB hp
        have z1 := str_ne hp
        have hne : byt x ≠ [] := fun e => by have := byt_len x; rw [e] at this; simp at this; omega
        have HNE := Lib.hid hne
        clear hne
        go_wp2_with (at_builtin; refine wp_appS rfl _ _ _ rfl w2.heap.size M [x] _ _ rfl rfl (HO.out.alloc _) (OwnS.one x _).rd.src ?c2 ?c3 ?_)
        case c2 => have := HB3.out.size; simp <;> omega
        case c3 => have := HFL.out; simp <;> omega
        · intro v' w4 ho2 hb2
          have HB5 := Lib.hid ((HB3.out.alloc HB3.out.size _).trans hb2)
          have HO2 := Lib.hid ho2
          clear ho2 hb2
          go_wp2
          go_roundw
          case rel => exact ⟨k + 1, by omega, by go_num, Lib.hid (by rw [HF.out, if_neg HNE.out]; exact HO2.out), HB5⟩
          case measure => simp [intOf]; omega
      · obtain rfl := size_zero x (by omega)
        have e0 : byt ByteArray.empty = [] := rfl
        have hf := HF.out
        rw [if_pos e0, List.append_nil] at hf
        have HF2 := Lib.hid hf
        clear hf e0
        go_wp2
        go_roundw
        case rel => exact ⟨k + 1, by omega, by go_num, Lib.hid (by rw [HF2.out]; exact HO.out), HB3⟩
        case measure => simp [intOf]; omega
    · obtain rfl : k = P.length := by omega
      have hq := HQ.out
      have ho := HO.out
      rw [List.take_length, hq] at ho
      have HO2 := Lib.hid ho
      clear ho hq
      go_wp2
      go_ret
      exact ⟨_, rfl, HO2.out.mono HB2.out.size, HB2.out.trans (HB3.out.mono HB2.out.size)⟩
end Go.Proofs.YtedcleobhdjhaaaDoor
