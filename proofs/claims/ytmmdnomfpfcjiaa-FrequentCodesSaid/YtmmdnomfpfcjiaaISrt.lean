/- The contracts of the library's insertion sort of ints and of slices.Sort at no more than 12 of them. -/
import Derived.Test.YtmmdnomfpfcjiaaSrtI
import Derived.Test.YtmmdnomfpfcjiaaIntRow
import Derived.Test.YtmmdnomfpfcjiaaRSrt
import Derived.Shelf.Abstract
namespace Go.Proofs.Ytmmdnomfpfcjiaa
open Go.RowKit
set_option linter.unusedVariables false
set_option linter.unusedSimpArgs false
theorem lessI_any (a b : Int) (w : World) : Calls Try.prog 88 #[.int .i64 a, .int .i64 b] w fun e w' => e = .returned (.bool (decide (a < b))) ∧ w = w' := by
  go_enter Try.func88, Try.ntmps88
  go_wp2_with (go_at_call 97; refine (nan_any _ _).mono ?_; rintro e w' ⟨rfl, rfl⟩)
  all_goals
    go_ret
    exact ⟨ret_bool (by first | rfl | simp [*]), rfl⟩
theorem OwnI.cellAt {B : Nat} {L : List Int} {g n cap : Nat} {w : World} (h : OwnI B L (.slice (some ⟨g, 0, none⟩) n cap) w) {j : Nat} (hj : j < L.length) : w.cell? ⟨g, j, none⟩ = some (.int .i64 (L.getD j 0)) ∧ w.frozen? ⟨g, j, none⟩ = false := by
  obtain ⟨g', he, -, -, hc, -⟩ := h.cells (by omega)
  cases he
  exact hc j hj
theorem OwnI.put {B : Nat} {L : List Int} {g n cap : Nat} {w : World} (h : OwnI B L (.slice (some ⟨g, 0, none⟩) n cap) w) (hp : 0 < L.length) (j : Nat) {c : Int} (hc : -9223372036854775808 ≤ c ∧ c ≤ 9223372036854775807) : OwnI B (L.set j c) (.slice (some ⟨g, 0, none⟩) n cap) (w.setCell ⟨g, j, none⟩ (.int .i64 c)) := by
  obtain ⟨g', he, -, -, -, hs⟩ := h.cells hp
  cases he
  exact hs j c hc
theorem OwnI.ge {B : Nat} {L : List Int} {g n cap : Nat} {w : World} (h : OwnI B L (.slice (some ⟨g, 0, none⟩) n cap) w) : B ≤ g := by
  rcases h.2.2 with ⟨he, _⟩ | ⟨g', cap', cur, he, hb, _⟩
  · cases he
  · simp only [Value.slice.injEq, Option.some.injEq] at he
    obtain ⟨he, _⟩ := he
    cases he
    exact hb
def SrtJ (B : Nat) (W : World) (C : List Int) (g n cap : Nat) (w : World) : Prop := OwnI B C (.slice (some ⟨g, 0, none⟩) n cap) w ∧ Below B W w ∧ C.length = n
theorem SrtJ.swp {B : Nat} {W : World} {C : List Int} {g n cap : Nat} {w : World} (h : SrtJ B W C g n cap w) {q : Nat} (hq : q + 1 < n) {X Y : Int} (hX : C.getD (q + 1) 0 = X) (hY : C.getD q 0 = Y) :
    SrtJ B W (swpI C (q + 1)) g n cap ((w.setCell ⟨g, q + 1, none⟩ (.int .i64 Y)).setCell ⟨g, q, none⟩ (.int .i64 X)) := by
  obtain ⟨h1, h2, h3⟩ := h
  have hg := h1.ge
  have hx := Rng.at_ h1.1 (q + 1)
  have hy := Rng.at_ h1.1 q
  rw [hX] at hx
  rw [hY] at hy
  have e : swpI C (q + 1) = (C.set (q + 1) Y).set q X := by unfold swpI; rw [Nat.add_sub_cancel, hX, hY]
  refine ⟨?_, bsetB (bsetB h2 _ _ _ hg) _ _ _ hg, by rw [swp_lenI]; exact h3⟩
  rw [e]
  exact (h1.put (by omega) (q + 1) hy).put (by rw [List.length_set]; omega) q hx
theorem SrtJ.drewN {B : Nat} {W : World} {C : List Int} {g n cap : Nat} {w : World} (h : SrtJ B W C g n cap w) (k : Nat) : SrtJ B W C g n cap (w.drewN k) := ⟨h.1.drewN k, below_drewN h.2.1 k, h.2.2⟩
set_option maxRecDepth 100000 in
set_option maxHeartbeats 4000000 in
theorem isortI_any (L : List Int) (B g cap : Nat) (w : World) (hO : OwnI B L (.slice (some ⟨g, 0, none⟩) L.length cap) w) (h1 : 1 ≤ L.length) (hn : L.length ≤ 549755813888) :
    Calls Try.prog 82 #[.slice (some ⟨g, 0, none⟩) L.length cap, .int .i64 0, .int .i64 L.length] w fun e w' =>
      e = .returned (.tuple #[]) ∧ OwnI B (sortI L) (.slice (some ⟨g, 0, none⟩) L.length cap) w' ∧ Below B w w' := by
  have HI0 := Lib.hid (show SrtJ B w (upToI L 1) g L.length cap w from ⟨by rw [upTo_oneI]; exact hO, Below.refl _ _, by rw [upTo_oneI]⟩)
  clear hO
  go_enter Try.func82, Try.ntmps82
  go_wp2
  go_loopw [6, 7] (fun i _ wr => ∃ k : Nat, k ≤ L.length ∧ 1 ≤ k ∧ i = .int .i64 (k : Int) ∧ Hid (SrtJ B w (upToI L k) g L.length cap wr)) (fun i _ _ => L.length - (intOf i).toNat)
  case atStart => exact ⟨1, h1, by omega, by go_num, HI0⟩
  case round =>
    clear HI0
    obtain ⟨k, hk, hk1, rfl, HI1⟩ := hrel
    by_cases hlt : k < L.length
    · have hlt2 : (k : Int) < (L.length : Int) := by omega
      have HZ1 : Hid (sinkI (upToI L k) k = upToI L (k + 1)) := Lib.hid (upTo_succI hlt).symm
      go_wp2
      go_loopw [7] (fun j wr' => ∃ (m : Nat) (C : List Int), m ≤ k ∧ j = .int .i64 (m : Int) ∧ Hid (SrtJ B w C g L.length cap wr') ∧ Hid (sinkI C m = upToI L (k + 1))) (fun j _ => (intOf j).toNat)
      case atStart => exact ⟨k, _, Nat.le_refl _, by go_num, HI1, HZ1⟩
      case round =>
        clear HI1 HZ1
        obtain ⟨m, C, hm, rfl, HI, HZ⟩ := hrel
        cases m with
        | zero =>
          go_wp2
          go_quiet (fail)
          go_wp2
          refine ⟨⟨k + 1, by omega, by omega, by go_num, Lib.hid ?_⟩, by simp [intOf]; omega⟩
          have h1 := HI.out
          have h2 : C = upToI L (k + 1) := HZ.out
          rw [h2] at h1
          exact h1.drewN _
        | succ q =>
          have hC := HI.out.2.2
          have hq : (q : Int) + 1 < (L.length : Int) := by omega
          have hq2 : (q : Int) < (L.length : Int) := by omega
          have hq3 : (0 : Int) ≤ (q : Int) := by omega
          have hq4 : (0 : Int) ≤ (q : Int) + 1 := by omega
          have hq5 : IntKind.i64.wrap ((q : Int) + 1 - 1) = (q : Int) := by rw [IntKind.wrap_i64]; omega
          have hq7 : wrap64 ((q : Int) + 1 - 1) = (q : Int) := by unfold wrap64; omega
          have hq8 : IntKind.i64.wrap (q : Int) = (q : Int) := by rw [IntKind.wrap_i64]; omega
          have hq6 : (0 : Int) < (q : Int) + 1 := by omega
          have hsk : sinkI C (q + 1) = if C.getD (q + 1) 0 < C.getD q 0 then sinkI (swpI C (q + 1)) q else C := rfl
          rw [HZ.out] at hsk
          obtain ⟨x0, xf⟩ := HI.out.1.cellAt (j := q + 1) (by omega)
          obtain ⟨y0, yf⟩ := HI.out.1.cellAt (j := q) (by omega)
          obtain ⟨X, hX⟩ : ∃ X, C.getD (q + 1) 0 = X := ⟨_, rfl⟩
          obtain ⟨Y, hY⟩ : ∃ Y, C.getD q 0 = Y := ⟨_, rfl⟩
          rw [hX] at hsk x0
          rw [hY] at hsk y0
          have HX := Lib.hid hX
          have HY := Lib.hid hY
          have HLS := Lib.hid (fun w => lessI_any X Y w)
          clear hX hY
          by_cases hbe : X < Y
          · rw [if_pos hbe] at hsk
            have HZ2 := Lib.hid hsk
            have HST := Lib.hid (fun (n : Nat) => (HI.out.drewN n).swp (by omega : q + 1 < L.length) HX.out HY.out)
            clear hsk HZ
            go_wp2
            go_quiet ((go_at_call 88; exact quiet_left (HLS.out _)))
            go_wp2
            go_big_region
            have HST2 := Lib.hid (HST.out (nq + 1))
            clear HST
            go_wp2
            go_roundw
            case rel => exact ⟨q, swpI C (q + 1), by omega, by go_num, HST2, Lib.hid HZ2.out.symm⟩
            case measure => simp [intOf]
          · rw [if_neg hbe] at hsk
            have HZ2 := Lib.hid hsk
            clear hsk HZ
            go_wp2
            go_quiet ((go_at_call 88; exact quiet_left (HLS.out _)))
            go_wp2
            refine ⟨⟨k + 1, by omega, by omega, by go_num, Lib.hid ?_⟩, by simp [intOf]; omega⟩
            have h1 := HI.out
            have h2 : C = upToI L (k + 1) := HZ2.out.symm
            rw [h2] at h1
            exact h1.drewN _
    · obtain rfl : k = L.length := by omega
      have HIX := Lib.hid HI1.out
      go_wp2
      go_end0
      exact ⟨rfl, by have := HIX.out.1; rwa [upTo_allI] at this, HIX.out.2.1⟩
set_option maxRecDepth 100000 in
set_option maxHeartbeats 4000000 in
theorem len64I_any (n : Int) (w : World) (h0 : 0 ≤ n) (h1 : n ≤ 12) : Calls Try.prog 71 #[.int .u64 n] w fun e w' => (∃ l : Int, e = .returned (.int .i64 l)) ∧ w = w' := by
  have h : n = 0 ∨ n = 1 ∨ n = 2 ∨ n = 3 ∨ n = 4 ∨ n = 5 ∨ n = 6 ∨ n = 7 ∨ n = 8 ∨ n = 9 ∨ n = 10 ∨ n = 11 ∨ n = 12 := by omega
  rcases h with rfl | rfl | rfl | rfl | rfl | rfl | rfl | rfl | rfl | rfl | rfl | rfl | rfl
  all_goals
    clear h0 h1
    go_enter Try.func71, Try.ntmps71
    go_wp2
    go_ret
    exact ⟨⟨_, rfl⟩, rfl⟩
theorem lenI_any (n : Int) (w : World) (h0 : 0 ≤ n) (h1 : n ≤ 12) : Calls Try.prog 78 #[.int .u64 n] w fun e w' => (∃ l : Int, e = .returned (.int .i64 l)) ∧ w = w' := by
  have h := fun w => len64I_any n w h0 h1
  go_enter Try.func78, Try.ntmps78
  go_wp2_with (go_at_call 71; refine (h _).mono ?_; rintro e w' ⟨⟨l, rfl⟩, rfl⟩)
  go_ret
  exact ⟨⟨_, rfl⟩, rfl⟩
set_option maxRecDepth 100000 in
set_option maxHeartbeats 4000000 in
theorem pdqI_any (L : List Int) (B g cap : Nat) (l : Int) (w : World) (hO : OwnI B L (.slice (some ⟨g, 0, none⟩) L.length cap) w) (h1 : 1 ≤ L.length) (hn : L.length ≤ 12) :
    Calls Try.prog 77 #[.slice (some ⟨g, 0, none⟩) L.length cap, .int .i64 0, .int .i64 L.length, .int .i64 l] w fun e w' =>
      e = .returned (.tuple #[]) ∧ OwnI B (sortI L) (.slice (some ⟨g, 0, none⟩) L.length cap) w' ∧ Below B w w' := by
  have hc := isortI_any L B g cap w hO h1 (by omega)
  have hn2 : (L.length : Int) ≤ 12 := by omega
  clear hO
  go_enter Try.func77, Try.ntmps77
  go_wp2
  go_loopw [1, 2, 3, 8, 9, 10, 11, 12, 13, 14, 15, 16, 17, 18] (fun a b _ _ _ _ _ _ _ _ _ _ _ _ wr => a = .int .i64 0 ∧ b = .int .i64 L.length ∧ wr = w) (fun _ _ _ _ _ _ _ _ _ _ _ _ _ _ _ => 0)
  case atStart => exact ⟨rfl, rfl, rfl⟩
  case round =>
    obtain ⟨rfl, rfl, rfl⟩ := hrel
    go_wp2_with (go_at_call 82; refine hc.mono ?_; rintro e w' ⟨rfl, ho, hb⟩; have HO := Lib.hid ho; have HB := Lib.hid hb; clear ho hb)
    exact bodyPost_ret (v := .tuple #[]) (by simp [results, Try.results77, go_sem]) rfl ⟨rfl, HO.out, HB.out⟩
set_option maxRecDepth 100000 in
theorem sortI_any (L : List Int) (B g cap : Nat) (w : World) (hO : OwnI B L (.slice (some ⟨g, 0, none⟩) L.length cap) w) (h1 : 1 ≤ L.length) (hn : L.length ≤ 12) :
    Calls Try.prog 68 #[.slice (some ⟨g, 0, none⟩) L.length cap] w fun e w' =>
      e = .returned (.tuple #[]) ∧ OwnI B (sortI L) (.slice (some ⟨g, 0, none⟩) L.length cap) w' ∧ Below B w w' := by
  have hc := fun l => pdqI_any L B g cap l w hO h1 hn
  have hl := fun w => lenI_any L.length w (by omega) (by omega)
  have hw : IntKind.u64.wrap (L.length : Int) = (L.length : Int) := by rw [IntKind.wrap_u64]; omega
  clear hO
  go_enter Try.func68, Try.ntmps68
  go_wp2_with (first
    | (go_at_call 78; refine (hl _).mono ?_; rintro e w' ⟨⟨l, rfl⟩, rfl⟩)
    | (go_at_call 77; refine (hc _).mono ?_; rintro e w' ⟨rfl, ho, hb⟩; have HO := Lib.hid ho; have HB := Lib.hid hb; clear ho hb))
  go_end0
  exact ⟨rfl, HO.out, HB.out⟩
end Go.Proofs.Ytmmdnomfpfcjiaa
