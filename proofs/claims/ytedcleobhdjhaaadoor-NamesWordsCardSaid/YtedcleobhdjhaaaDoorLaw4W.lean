/- The walk of the law NamesWords. -/
import Derived.Test.YtedcleobhdjhaaaDoorKnown4
import Derived.Test.YtedcleobhdjhaaaDoorNums
import Derived.Test.YtedcleobhdjhaaaDoorMask
import Derived.Test.YtedcleobhdjhaaaDoorRFields
import Derived.Test.YtedcleobhdjhaaaDoorArgsS
namespace Go.Proofs.YtedcleobhdjhaaaDoor
open Go.RowKit
set_option linter.unusedVariables false
set_option linter.unusedSimpArgs false
/-- Three blanks, or two. -/
def blS (z : Int) : List Int := if z % 2 = 0 then [32, 32, 32] else [32, 32]
theorem bl_run (z : Int) (w : World) : (Instr.slice 9 (.string ⟨#[32, 32, 32]⟩) (some (.int .i64 (z % 2))) none none).run Tryd.prog w = .ok (.string (strOfNums (blS z))) w := by
  have hs : (⟨#[32, 32, 32]⟩ : ByteArray).size = 3 := rfl
  rw [run_slice_string_from_if w _ _ _ _ Tryd.underlying9, if_pos ⟨by omega, by rw [hs]; omega⟩]
  unfold blS
  by_cases h : z % 2 = 0
  · rw [if_pos h, h]
    have : (⟨#[32, 32, 32]⟩ : ByteArray).extract (0 : Int).toNat 3 = strOfNums [32, 32, 32] := by decide +kernel
    rw [hs, this]
  · have h1 : z % 2 = 1 := by omega
    rw [if_neg h, h1]
    have : (⟨#[32, 32, 32]⟩ : ByteArray).extract (1 : Int).toNat 3 = strOfNums [32, 32] := by decide +kernel
    rw [hs, this]
/-- A text whose words are W, whatever follows behind a blank. -/
def Txt (S : List Int) (W : List (List Int)) : Prop := 35 ∉ S ∧ wordsG [] S = W ∧ ∀ T, wordsG [] (S ++ 32 :: T) = W ++ wordsG [] T
theorem Txt.nil : Txt [] [] := ⟨by simp, rfl, fun T => by simp [wordsG, emitL]⟩
theorem words_blank (T : List Int) : wordsG [] (32 :: T) = wordsG [] T := by simp [wordsG, emitL]
theorem Txt.next {S : List Int} {W : List (List Int)} (h : Txt S W) (z : Int) {x : List Int} (hx : x ≠ []) (h32 : 32 ∉ x) (h35 : 35 ∉ x) : Txt (S ++ blS z ++ x) (W ++ [x]) := by
  obtain ⟨h1, h2, h3⟩ := h
  have hw : ∀ T, wordsG [] (x ++ 32 :: T) = [x] ++ wordsG [] T := fun T => by
    rw [wordsG_hit _ _ _ h32, List.nil_append, emitL, if_neg hx]
  have hw0 : wordsG [] x = [x] := by
    rw [wordsG_miss _ _ h32, List.nil_append, emitL, if_neg hx]
  unfold blS
  split
  · refine ⟨by simp [h1, h35], ?_, fun T => ?_⟩
    · rw [List.append_assoc]
      show wordsG [] (S ++ 32 :: 32 :: 32 :: x) = _
      rw [h3, words_blank, words_blank, hw0]
    · have e : S ++ [32, 32, 32] ++ x ++ 32 :: T = S ++ 32 :: 32 :: 32 :: (x ++ 32 :: T) := by simp
      rw [e, h3, words_blank, words_blank, hw]
      simp
  · refine ⟨by simp [h1, h35], ?_, fun T => ?_⟩
    · rw [List.append_assoc]
      show wordsG [] (S ++ 32 :: 32 :: x) = _
      rw [h3, words_blank, hw0]
    · have e : S ++ [32, 32] ++ x ++ 32 :: T = S ++ 32 :: 32 :: (x ++ 32 :: T) := by simp
      rw [e, h3, words_blank, hw]
      simp
theorem bl_len (z : Int) : (blS z).length ≤ 3 := by unfold blS; split <;> simp
theorem len3 (A : List Int) (q : Int) (B : List Int) : (A ++ (blS q ++ B)).length ≤ A.length + 3 + B.length := by
  have := bl_len q
  simp <;> omega
theorem bl_byt (q : Int) : Byt (blS q) := by
  unfold blS
  split
  · exact Byt.cons (by omega) (Byt.cons (by omega) (Byt.cons (by omega) Byt.nil))
  · exact Byt.cons (by omega) (Byt.cons (by omega) Byt.nil)
theorem mask1 (n : Int) : bits .and .i64 n 1 = n % 2 := i64_mask 1 (by decide) n
def plw (c : Int) : Bool := !(c == 32) && !(c == 35)
theorem plw_no {x : List Int} (h : x.all plw = true) : 32 ∉ x ∧ 35 ∉ x := by
  rw [List.all_eq_true] at h
  exact ⟨fun hm => by have := h 32 hm; simp [plw] at this, fun hm => by have := h 35 hm; simp [plw] at this⟩
set_option maxRecDepth 100000 in
set_option maxHeartbeats 4000000 in
theorem namesWords_walk (a : Option Addr) (n cap : Nat) (z : List ByteArray) (m : Int) (cm : ByteArray) (W : World) (w0 : InStr W a n cap z) (wn : (Lit.int .i64 m).wf = true) (wc : cm.size ≤ maxLen) (ht : Tab10 W) :
    Calls Tryd.prog 7 #[.slice a n cap, .int .i64 m, .string cm] W fun e w' => e = .returned (.bool true) ∧ Below W.heap.size W w' := by
  have h7 := fun w (hb : Below W.heap.size W w) => known_any w (ht.below hb)
  obtain ⟨m0, m1⟩ := wf_bd wn
  have hrd := inStr_rd w0
  have hln : (z.take n).length = n := by have := w0.1; have := w0.2.2.1; rw [List.length_take]; omega
  have hcap : cap ≤ 9223372036854775807 := by have := w0.2.1; unfold maxLen at this; omega
  have hnc : n ≤ cap := w0.1
  have gc : cm.size ≤ 9223372036854775807 := by unfold maxLen at wc; omega
  have hsz : ∀ k, k < n → ((z.take n).getD k ByteArray.empty).size ≤ 9223372036854775807 := fun k hk => by
    have h1 := w0.2.2.1
    have hm : (z.take n).getD k ByteArray.empty ∈ z := by
      have : k < (z.take n).length := by omega
      simp only [List.getD, List.getElem?_eq_getElem this, Option.getD_some]
      exact List.mem_of_mem_take (List.getElem_mem this)
    have := w0.2.2.2.1 _ hm
    unfold maxLen at this
    omega
  clear ht wn w0 wc
  generalize z.take n = L at *
  clear z
  by_cases hl : 20 < n ∨ 100 < cm.size
  · by_cases hl1 : 20 < n
    all_goals
      clear hsz
      go_enter Tryd.func7, Tryd.ntmps7
      go_wp2_with (go_at_call 15; refine (h7 _ (Below.refl _ _)).mono ?_; rintro e w3 ⟨rfl, hb3⟩)
      go_ret
      exact ⟨rfl, hb3⟩
  · have l1 : n ≤ 20 := by omega
    have l2 : cm.size ≤ 100 := by omega
    obtain ⟨a', cap', hv, hr2, hr3, hr4⟩ := id hrd
    rw [hln] at hv hr4
    simp only [Value.slice.injEq] at hv
    obtain ⟨rfl, -, rfl⟩ := hv
    have HRD := Lib.hid hrd
    have HR := Lib.hid hr4
    have HSZ := Lib.hid hsz
    have HLN := Lib.hid hln
    have H7 := Lib.hid h7
    clear hrd hr4 hsz hln hr2 hr3 hl h7
    go_enter Tryd.func7, Tryd.ntmps7
    go_wp2
    go_loopw [7, 8] (fun s i wr => ∃ (k : Nat) (S : List Int), k ≤ n ∧ i = .int .i64 k ∧ s = .string (strOfNums S) ∧ S.length ≤ 60 * k ∧ Hid (Byt S) ∧ Hid (Txt S ((L.take k).map byt)) ∧ Hid (Below W.heap.size W wr)) (fun _ i _ => n - (intOf i).toNat)
    case atStart => exact ⟨0, [], by omega, rfl, rfl, by simp, Byt.nil, Txt.nil, Below.refl _ _⟩
    case round =>
      obtain ⟨k, S, hk, rfl, rfl, hSl, HY, HT, HB⟩ := hrel
      by_cases hlt : k < n
      · obtain ⟨b, off, rfl, hb, hc⟩ := HR.out (by omega)
        have d1 := (HB.out.cell (p := ⟨b, off + k, none⟩) hb).trans (hc k hlt)
        have hx := HSZ.out k hlt
        have HX : Hid (L.getD k ByteArray.empty = L.getD k ByteArray.empty) := rfl
        obtain ⟨x, hxe⟩ : ∃ x, L.getD k ByteArray.empty = x := ⟨_, rfl⟩
        rw [hxe] at d1 hx
        have HXE := Lib.hid hxe
        clear hc hxe HX
        by_cases hp : 0 < x.size
        · obtain ⟨z2, z3⟩ := str_neB hp
          have z1 := str_ne hp
          by_cases hg : 50 < x.size
          · have h7 := H7.out _ HB.out
            go_wp2_with (go_at_call 15; refine h7.mono ?_; rintro e w3 ⟨rfl, hb3⟩)
            go_ret
            exact ⟨rfl, HB.out.trans (hb3.mono HB.out.size)⟩
          · have HXL := Lib.hid (byt_len x)
            go_wp2
            go_loop [9] (fun i => ∃ j : Nat, j ≤ x.size ∧ i = .int .i64 j ∧ Hid (((byt x).take j).all plw = true)) (fun i => x.size - (intOf i).toNat)
            case atStart => exact ⟨0, by omega, rfl, rfl⟩
            case round =>
              obtain ⟨j, hj, rfl, HA⟩ := hrel
              by_cases hjl : j < x.size
              · have hn := all_take (p := plw) (by rw [HXL.out]; exact hjl) HA.out
                rw [byt_at hjl] at hn
                have HN := Lib.hid hn
                clear hn
                by_cases hbad : (x[j].toNat : Int) = 32 ∨ (x[j].toNat : Int) = 35
                · have h7 := H7.out _ HB.out
                  by_cases h32 : (x[j].toNat : Int) = 32
                  · clear hbad
                    go_wp2_with (go_at_call 15; refine h7.mono ?_; rintro e w3 ⟨rfl, hb3⟩)
                    go_ret
                    exact ⟨rfl, HB.out.trans (hb3.mono HB.out.size)⟩
                  · have h35 : (x[j].toNat : Int) = 35 := by omega
                    clear hbad
                    go_wp2_with (go_at_call 15; refine h7.mono ?_; rintro e w3 ⟨rfl, hb3⟩)
                    go_ret
                    exact ⟨rfl, HB.out.trans (hb3.mono HB.out.size)⟩
                · have h32 : ((x[j].toNat : Int) == 32) = false := beq_eq_false_iff_ne.2 (by omega)
                  have h35 : ((x[j].toNat : Int) == 35) = false := beq_eq_false_iff_ne.2 (by omega)
                  have HP : Hid (plw (x[j].toNat : Int) = true) := by
                    show _ = _
                    unfold plw
                    rw [h32, h35]
                    rfl
                  clear hbad
                  go_wp2
                  go_round
                  case rel => exact ⟨j + 1, by omega, by go_num, Lib.hid (by rw [HN.out]; exact HP.out)⟩
                  case measure => simp [intOf]; omega
              · obtain rfl : j = x.size := by omega
                have ha := HA.out
                rw [← HXL.out, List.take_length] at ha
                have hpl := plw_no ha
                have hne : byt x ≠ [] := fun e => by have := HXL.out; rw [e] at this; simp at this; omega
                have HTK : Hid ((L.take (k + 1)).map byt = (L.take k).map byt ++ [byt x]) := by
                  show _ = _
                  have hk : k < L.length := by rw [HLN.out]; exact hlt
                  have : L[k] = x := by rw [← HXE.out]; simp [List.getD, hk]
                  rw [List.take_succ_eq_append_getElem hk, List.map_append, this]
                  rfl
                have HNX := fun q : Int => Lib.hid (by have := HT.out.next q hne hpl.1 hpl.2; rwa [List.append_assoc] at this : Txt (S ++ (blS q ++ byt x)) _)
                have hx50 : (byt x).length ≤ 50 := by rw [HXL.out]; omega
                have hadd1 := fun (q : Int) (w : World) => add_run S (blS q) (by have := bl_len q; omega) w
                have hadd2 := fun (q : Int) (w : World) => add_run (S ++ blS q) (byt x) (by have := bl_len q; rw [List.length_append]; omega) w
                rw [str_byt] at hadd2
                have hw2 : IntKind.i64.wrap (2 * (k : Int)) = 2 * (k : Int) := IntWalk.i64_in _ (by omega)
                have hw3 : IntKind.u64.wrap (2 * (k : Int)) = 2 * (k : Int) := by rw [IntKind.wrap_u64]; omega
                have hw4 : 2 * (k : Int) % 18446744073709551616 = 2 * (k : Int) := by omega
                have hk0 : (0 : Int) ≤ 2 * (k : Int) := by omega
                have hk1 : 2 * (k : Int) ≤ 64 := by omega
                have HX50 := Lib.hid hx50
                clear ha hpl hne hx50
                have hmk := mask1
                have hsl := bl_run
                go_wp2
                go_quiet (fail)
                clear hmk hsl hw2 hw3 hw4 hadd1 hadd2
                go_wp2
                go_roundw
                case rel => exact ⟨k + 1, _, by omega, by go_num, rfl, Nat.le_trans (len3 S _ (byt x)) (by have := HX50.out; omega), Lib.hid (HY.out.app ((bl_byt _).app (byt_byt x))), Lib.hid (by rw [HTK.out]; exact (HNX _).out), Lib.hid (below_drewN HB.out _)⟩
                case measure => simp [intOf]; omega
        · obtain rfl := size_zero x (by omega)
          have h7 := H7.out _ HB.out
          go_wp2_with (go_at_call 15; refine h7.mono ?_; rintro e w3 ⟨rfl, hb3⟩)
          go_ret
          exact ⟨rfl, HB.out.trans (hb3.mono HB.out.size)⟩
      · obtain rfl : k = n := by omega
        have ht := HT.out
        rw [← HLN.out, List.take_length] at ht
        obtain ⟨t1, t2, _⟩ := ht
        have hF : (wordsG [] S).map strOfNums = L := by
          rw [t2, List.map_map]
          have : (strOfNums ∘ byt) = id := by funext q; exact str_byt q
          rw [this, List.map_id]
        have hy35 : Byt (S ++ [35] ++ byt cm) := (HY.out.app (Byt.cons (by omega) Byt.nil)).app (byt_byt cm)
        have hc100 : (byt cm).length ≤ 100 := by rw [byt_len]; exact l2
        have f1 := fun w => fields_any (strOfNums S) w (by rw [str_size]; omega)
        have f2 := fun w => fields_any (strOfNums (S ++ [35] ++ byt cm)) w (by rw [str_size]; simp <;> omega)
        have e3 : S ++ [35] ++ byt cm = S ++ 35 :: byt cm := by simp
        rw [byt_str HY.out, fieldsG_miss _ _ t1, hF] at f1
        rw [byt_str hy35, e3, fieldsG_hit _ _ _ t1, hF, ← e3] at f2
        have ha1 := fun w => add_run S [35] (by simp <;> omega) w
        have ha2 := fun w => add_run (S ++ [35]) (byt cm) (by simp <;> omega) w
        have e4 : strOfNums [35] = ⟨#[35]⟩ := by decide +kernel
        rw [e4] at ha1
        rw [str_byt] at ha2
        have hsm := fun (w : World) (v : Value) (hb : Below W.heap.size W w) (hv : RdS L v w) => same_yes L v (.slice a k cap) w hv (HRD.out.below hb)
        have h7 := H7.out
        clear hF hy35 hc100 e3 e4 t1 t2
        generalize strOfNums (S ++ [35] ++ byt cm) = S3 at *
        generalize strOfNums (S ++ [35]) = S2 at *
        generalize strOfNums S = S1 at *
        go_wp2_with (first
          | (go_at_call 24; first
            | ((with_reducible refine (f1 _).mono ?_); rintro e w4 ⟨v4, rfl, o4, hb4⟩; have hb14 := HB.out.trans (hb4.mono HB.out.size); have hs1 := hsm w4 v4 hb14 o4.rd; clear f1 o4)
            | ((with_reducible refine (f2 _).mono ?_); rintro e w6 ⟨v6, rfl, o6, hb6⟩; have hb16 := hb15.trans (hb6.mono hb15.size); have hs2 := hsm w6 v6 hb16 o6.rd; clear f2 o6))
          | (go_at_call 23; first
            | ((with_reducible refine hs1.mono ?_); rintro e w5 ⟨rfl, hb5⟩; have hb15 := hb14.trans (hb5.mono hb14.size); clear hs1)
            | ((with_reducible refine hs2.mono ?_); rintro e w7 ⟨rfl, hb7⟩; have hb17 := hb16.trans (hb7.mono hb16.size); clear hs2))
          | (go_at_call 15; refine (h7 _ hb17).mono ?_; rintro e w8 ⟨rfl, hb8⟩))
        go_ret
        exact ⟨rfl, hb17.trans (hb8.mono hb17.size)⟩
end Go.Proofs.YtedcleobhdjhaaaDoor
