/- The contracts of the library's insertion sort, of slices.SortFunc at no more than 12 entries, and of slices.Clone. -/
import Derived.Test.YtcmekpdgikploaaRSrt
import Derived.Test.YtcmekpdgikploaaOrdC
import Derived.Shelf.Abstract
namespace Go.Proofs.Ytcmekpdgikploaa
open Go.RowKit
set_option linter.unusedVariables false
set_option linter.unusedSimpArgs false
def SrtB (B : Nat) (W : World) (C : List Ent) (g n cap : Nat) (w : World) : Prop := OwnE B C (.slice (some ⟨g, 0, none⟩) C.length cap) w ∧ Below B W w ∧ C.length = n
theorem enters_cmp : ∀ args w, (callFunc 35 args).run Try.prog w = .ok (.enter 35 args) w := Go.Proofs.enters_of Try.func35 (by kernel_rfl) rfl
theorem bgoB {B : Nat} {a w w' : World} (h : Below B a w) (hb : Below w.heap.size w w') (hB : B ≤ w.heap.size) : Below B a w' := h.trans (hb.mono hB)
set_option maxRecDepth 100000 in
set_option maxHeartbeats 4000000 in
theorem isort_any (L : List Ent) (B g cap : Nat) (w : World) (hO : OwnE B L (.slice (some ⟨g, 0, none⟩) L.length cap) w) (hn : L.length ≤ 549755813888) (hB : B ≤ w.heap.size) :
    Calls Try.prog 78 #[.slice (some ⟨g, 0, none⟩) L.length cap, .int .i64 0, .int .i64 L.length, .func (.func 35) #[] #[]] w fun e w' =>
      e = .returned (.tuple #[]) ∧ OwnE B (sortE L) (.slice (some ⟨g, 0, none⟩) L.length cap) w' ∧ Below B w w' := by
  have he := enters_cmp
  by_cases h0 : L.length = 0
  · obtain rfl := List.eq_nil_of_length_eq_zero h0
    have HO := Lib.hid hO
    clear hO
    go_enter Try.func78, Try.ntmps78
    go_wp2
    go_loopw [8] (fun i wr => i = .int .i64 1 ∧ wr = w) (fun _ _ => 0)
    case atStart => exact ⟨by go_num, rfl⟩
    case round =>
      obtain ⟨rfl, rfl⟩ := hrel
      go_wp2
      go_end0
      exact ⟨rfl, HO.out, Below.refl _ _⟩
  · have h1 : 1 ≤ L.length := by omega
    clear h0
    have HI0 := Lib.hid (show SrtB B w (upTo L 1) g L.length cap w from ⟨by rw [upTo_one]; exact hO, Below.refl _ _, by rw [upTo_one]⟩)
    clear hO
    go_enter Try.func78, Try.ntmps78
    go_wp2
    go_loopw [8, 9] (fun i _ wr => ∃ k : Nat, k ≤ L.length ∧ 1 ≤ k ∧ i = .int .i64 (k : Int) ∧ Hid (SrtB B w (upTo L k) g L.length cap wr)) (fun i _ _ => L.length - (intOf i).toNat)
    case atStart => exact ⟨1, h1, by omega, by go_num, HI0⟩
    case round =>
      clear HI0
      obtain ⟨k, hk, hk1, rfl, HI1⟩ := hrel
      by_cases hlt : k < L.length
      · have hlt2 : (k : Int) < (L.length : Int) := by omega
        have HZ1 : Hid (sink (upTo L k) k = upTo L (k + 1)) := Lib.hid (upTo_succ hlt).symm
        go_wp2
        go_loopw [9] (fun j wr' => ∃ (m : Nat) (C : List Ent), m ≤ k ∧ j = .int .i64 (m : Int) ∧ Hid (SrtB B w C g L.length cap wr') ∧ Hid (sink C m = upTo L (k + 1))) (fun j _ => (intOf j).toNat)
        case atStart => exact ⟨k, _, Nat.le_refl _, by go_num, HI1, HZ1⟩
        case round =>
          clear HI1 HZ1
          obtain ⟨m, C, hm, rfl, HI, HZ⟩ := hrel
          cases m with
          | zero =>
            go_wp2
            go_quiet (fail)
            go_wp2
            refine ⟨⟨k + 1, by omega, by omega, by go_num, Lib.hid ?_⟩, by simp [intOf]; omega⟩
            have h1 := HI.out
            have h2 : C = upTo L (k + 1) := HZ.out
            rw [h2] at h1
            obtain ⟨h3, h4, h5⟩ := h1
            exact ⟨h3.drewN _, below_drewN h4 _, h5⟩
          | succ q =>
            have hC := HI.out.2.2
            have hq : (q : Int) + 1 < (L.length : Int) := by omega
            have hq2 : (q : Int) < (L.length : Int) := by omega
            have hq3 : (0 : Int) ≤ (q : Int) := by omega
            have hq4 : (0 : Int) ≤ (q : Int) + 1 := by omega
            have hq5 : IntKind.i64.wrap ((q : Int) + 1 - 1) = (q : Int) := by rw [IntKind.wrap_i64]; omega
            have hq7 : wrap64 ((q : Int) + 1 - 1) = (q : Int) := by unfold wrap64; omega
            have hq8 : IntKind.i64.wrap (q : Int) = (q : Int) := by rw [IntKind.wrap_i64]; omega
            have hq6 : (0 : Int) < (q : Int) + 1 := by omega
            have hsk : sink C (q + 1) = if bef (C.getD (q + 1) Ent.z) (C.getD q Ent.z) = true then sink (swp C (q + 1)) q else C := rfl
            rw [HZ.out] at hsk
            have hX := HI.out.1.1.at_ (q + 1)
            have hY := HI.out.1.1.at_ q
            have hsw : swp C (q + 1) = (C.set (q + 1) (C.getD q Ent.z)).set q (C.getD (q + 1) Ent.z) := rfl
            have hO := Lib.hid (fun (w' : World) (hb : Below wr.heap.size wr w') => (HI.out.1.below hb : OwnE B C (.slice (some ⟨g, 0, none⟩) C.length cap) w'))
            have hA := Lib.hid (fun (w' : World) (hb : Below wr.heap.size wr w') => (hO.out w' hb).cellsAt (j := q + 1) (by omega))
            have hA2 := Lib.hid (fun (w' : World) (hb : Below wr.heap.size wr w') => (hO.out w' hb).cellsAt (j := q) (by omega))
            have HX := Lib.hid hX
            have HY := Lib.hid hY
            have HSW := Lib.hid hsw
            clear hX hY hsw
            generalize C.getD (q + 1) Ent.z = X at *
            generalize C.getD q Ent.z = Y at *
            have hbf := fun w => compare_any X Y w
            have hcd := cmpE_bd X Y
            have hcb := cmpE_bef X Y
            have HBL : Hid (B ≤ wr.heap.size) := Lib.hid (Nat.le_trans hB HI.out.2.1.size)
            generalize cmpE X Y = r at *
            obtain ⟨x0, x1, x2⟩ := hA.out wr (Below.refl _ _)
            obtain ⟨y0, y1, y2⟩ := hA2.out wr (Below.refl _ _)
            have HSB : Hid (∀ w1 w2 : World, Below wr.heap.size wr w1 → Below w1.heap.size w1 w2 → Below wr.heap.size wr w2) := Lib.hid (fun _ _ h k => bgo h k)
            have hBd : Below wr.heap.size wr wr.drew := (Below.refl wr.heap.size wr).drew
            by_cases hbe : bef X Y = true
            · have hr : r < 0 := by rw [hbe] at hcb; exact of_decide_eq_true hcb
              rw [hbe] at hsk
              rw [if_pos rfl] at hsk
              have HZ2 := Lib.hid hsk
              clear hsk HZ hbe hcb
              go_wp2
              go_region_held3 (fun w' => Below wr.heap.size wr w' ∧ w'.cell? ⟨g, (q + 1) * 3, none⟩ = some (.string X.k) ∧ w'.cell? ⟨g, (q + 1) * 3 + 1, none⟩ = some (.int .i64 X.c) ∧ w'.cell? ⟨g, (q + 1) * 3 + 2, none⟩ = some (.int .i64 X.e) ∧ w'.cell? ⟨g, q * 3, none⟩ = some (.string Y.k) ∧ w'.cell? ⟨g, q * 3 + 1, none⟩ = some (.int .i64 Y.c) ∧ w'.cell? ⟨g, q * 3 + 2, none⟩ = some (.int .i64 Y.e)) (go_keep)
                (first | (go_at_call 35; refine (hbf _).mono ?_; rintro e w' ⟨rfl, hb⟩; have S1 := HSB.out _ w' (by assumption) hb; obtain ⟨x0, x1, x2⟩ := hA.out w' S1; obtain ⟨y0, y1, y2⟩ := hA2.out w' S1; clear hb))
              all_goals
                have HO2 := hO.out w' S1
                have f0 := HO2.frozen ((q + 1) * 3)
                have f1 := HO2.frozen ((q + 1) * 3 + 1)
                have f2 := HO2.frozen ((q + 1) * 3 + 2)
                have g0 := HO2.frozen (q * 3)
                have g1 := HO2.frozen (q * 3 + 1)
                have g2 := HO2.frozen (q * 3 + 2)
                have HST : Hid (OwnE B (swp C (q + 1)) (.slice (some ⟨g, 0, none⟩) (swp C (q + 1)).length cap) _ ∧ Below B w _) := Lib.hid (swp_own HO2 (bgoB HI.out.2.1 S1 HBL.out) HX.out HY.out HSW.out)
                clear HO2
                rename_i hHeld
                clear hHeld
                go_wp2
                go_big_region
                go_wp2
                go_roundw
                case rel => exact ⟨q, swp C (q + 1), by omega, by go_num, Lib.hid ⟨HST.out.1.drewN 1, HST.out.2.drew, by rw [swp_len]; exact hC⟩, Lib.hid HZ2.out.symm⟩
                case measure => simp [intOf]
            · have hB' : bef X Y = false := by simpa using hbe
              have hr : ¬ r < 0 := by rw [hB'] at hcb; exact of_decide_eq_false hcb
              rw [hB'] at hsk
              rw [if_neg (by simp)] at hsk
              have HZ2 := Lib.hid hsk
              clear hsk HZ hbe hB' hcb
              go_wp2
              go_region_held3 (fun w' => Below wr.heap.size wr w' ∧ w'.cell? ⟨g, (q + 1) * 3, none⟩ = some (.string X.k) ∧ w'.cell? ⟨g, (q + 1) * 3 + 1, none⟩ = some (.int .i64 X.c) ∧ w'.cell? ⟨g, (q + 1) * 3 + 2, none⟩ = some (.int .i64 X.e) ∧ w'.cell? ⟨g, q * 3, none⟩ = some (.string Y.k) ∧ w'.cell? ⟨g, q * 3 + 1, none⟩ = some (.int .i64 Y.c) ∧ w'.cell? ⟨g, q * 3 + 2, none⟩ = some (.int .i64 Y.e)) (go_keep)
                (first | (go_at_call 35; refine (hbf _).mono ?_; rintro e w' ⟨rfl, hb⟩; have S1 := HSB.out _ w' (by assumption) hb; obtain ⟨x0, x1, x2⟩ := hA.out w' S1; obtain ⟨y0, y1, y2⟩ := hA2.out w' S1; clear hb))
              all_goals
                go_wp2
                refine ⟨⟨k + 1, by omega, by omega, by go_num, Lib.hid ?_⟩, by simp [intOf]; omega⟩
                have h1 := hO.out w' S1
                have h2 : C = upTo L (k + 1) := HZ2.out.symm
                rw [h2] at h1 hC
                exact ⟨h1, bgoB HI.out.2.1 S1 HBL.out, hC⟩
      · obtain rfl : k = L.length := by omega
        have h := HI1.out
        rw [upTo_all] at h
        have HH := Lib.hid h
        clear h HI1
        go_wp2
        go_end0
        obtain ⟨h2, h3, h4⟩ := HH.out
        rw [h4] at h2
        exact ⟨rfl, h2, h3⟩
end Go.Proofs.Ytcmekpdgikploaa
