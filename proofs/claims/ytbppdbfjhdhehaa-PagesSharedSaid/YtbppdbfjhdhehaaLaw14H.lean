/- The walk of the law PagesShared. -/
import Derived.Test.YtbppdbfjhdhehaaKn14
import Derived.Test.YtbppdbfjhdhehaaPgB
namespace Go.Proofs.Ytbppdbfjhdhehaa
open Go.RowKit
set_option linter.unusedVariables false
set_option linter.unusedSimpArgs false
theorem mask16h (n : Int) : bits .and .i64 n 65535 = n % 65536 := i64_mask 16 (by decide) n
theorem mask4h (n : Int) : bits .and .i64 n 15 = n % 16 := i64_mask 4 (by decide) n
theorem RdO.at_ {L : List Bool} {a : Option Addr} {n cap : Nat} {w : World} (h : RdO L (.slice a n cap) w) {k : Nat} (hk : k < L.length) :
    ∃ b off, a = some ⟨b, off, none⟩ ∧ b < w.heap.size ∧ w.cell? ⟨b, off + k, none⟩ = some (.bool (L.getD k false)) := by
  obtain ⟨a', cap', he, -, -, h3⟩ := h
  simp only [Value.slice.injEq] at he
  obtain ⟨rfl, rfl, rfl⟩ := he
  obtain ⟨b, off, rfl, hb, hc⟩ := h3 (by omega)
  exact ⟨b, off, rfl, hb, hc k hk⟩
set_option maxRecDepth 100000 in
set_option maxHeartbeats 1000000 in
theorem pagesShared_walk (x y s : Int) (W : World) (w0 : (Lit.int .i64 x).wf = true) (w1 : (Lit.int .i64 y).wf = true) (w2 : (Lit.int .i64 s).wf = true) :
    Calls Try.prog 6 #[.int .i64 x, .int .i64 y, .int .i64 s] W fun e w' => e = .returned (.bool true) ∧ Below W.heap.size W w' := by
  obtain ⟨s0, s1⟩ := wf_bd w2
  clear w0 w1 w2
  have k1 := mask16h x
  have k2 := mask16h y
  have k3 := mask4h s
  obtain ⟨T, hT⟩ : ∃ T : Nat, 1 + s % 16 = (T : Int) := ⟨(1 + s % 16).toNat, by omega⟩
  have hT1 : 1 ≤ T := by omega
  have hT2 : T ≤ 16 := by omega
  have hb1 := fun w => bytes_any (x % 65536) w (by omega) (by omega)
  have hb2 := fun w => bytes_any (y % 65536) w (by omega) (by omega)
  have HSP := Lib.hid (fun L v w (h : Rd L v w) (hl : L.length ≤ 60) => by
    have h2 := rsplit_any L T v w h (by omega)
    rw [(spl_ok (L := L) hT1 (by omega)).1, (spl_ok (L := L) hT1 (by omega)).2] at h2
    exact h2)
  have HPL := Lib.hid (fun L (hl : L.length ≤ 60) => (by rw [pgs_len]; exact Nat.le_trans (cnt_le hT1) (by omega) : (pgs L T).length ≤ 60))
  generalize x % 65536 = x1 at *
  generalize y % 65536 = y1 at *
  go_enter Try.func6, Try.ntmps6
  go_wp2_with fail
  go_at_call 15
  refine (hb1 _).mono ?_
  rintro e w1 ⟨L1, v1, hl1, rfl, o1, b1⟩
  have O1 := Lib.hid o1
  have B1 := Lib.hid b1
  have HL1 := Lib.hid (HPL.out L1 hl1)
  have HS1 := Lib.hid (HSP.out L1 v1 w1 o1 hl1)
  clear o1 b1 hb1 hl1
  generalize pgs L1 T = X at *
  go_wp2_with fail
  go_at_call 9
  refine (HS1.out).mono ?_
  rintro e w2 ⟨v2, rfl, o2, b2⟩
  have O2 := Lib.hid o2
  have B2 := Lib.hid (bgo B1.out b2)
  clear o2 b2 O1 HS1
  go_wp2_with fail
  go_at_call 15
  refine (hb2 _).mono ?_
  rintro e w3 ⟨L3, v3, hl3, rfl, o3, b3⟩
  have B3 := Lib.hid (bgo B2.out b3)
  have O23 := Lib.hid (O2.out.below b3)
  have HL3 := Lib.hid (HPL.out L3 hl3)
  have HS3 := Lib.hid (HSP.out L3 v3 w3 o3 hl3)
  clear o3 b3 hb2 hl3 O2
  generalize pgs L3 T = Y at *
  go_wp2_with fail
  go_at_call 9
  refine (HS3.out).mono ?_
  rintro e w4 ⟨v4, rfl, o4, b4⟩
  have O4 := Lib.hid o4
  have O24 := Lib.hid (O23.out.below b4)
  have B4 := Lib.hid (bgo B3.out b4)
  obtain ⟨a4, c4, rfl⟩ := o4.shape
  clear o4 b4 O23 HS3
  have HY := Lib.hid (show Y.length ≤ 1000000000000 by have := HL3.out; omega)
  have HLL := Lib.hid (shL_len X Y)
  have HLY := Lib.hid (shL_self Y)
  go_wp2_with fail
  go_at_call 16
  refine (pshared_any X Y _ _ _ O24.out O4.out HY.out).mono ?_
  rintro e w5 ⟨v5, rfl, o5, b5⟩
  have O5 := Lib.hid o5
  have O25 := Lib.hid (O24.out.below b5)
  have O45 := Lib.hid (O4.out.below b5)
  have B5 := Lib.hid (bgo B4.out b5)
  clear o5 b5 O24 O4
  go_wp2_with fail
  go_at_call 17
  refine (rshared_any X Y _ _ _ O25.out O45.out HY.out).mono ?_
  rintro e w6 ⟨v6, rfl, o6, b6⟩
  have O6 := Lib.hid o6
  have O56 := Lib.hid (O5.out.below b6)
  have O46 := Lib.hid (O45.out.below b6)
  have B6 := Lib.hid (bgo B5.out b6)
  clear o6 b6 O25 O45 O5
  go_wp2_with fail
  go_at_call 16
  refine (pshared_any Y Y _ _ _ O46.out O46.out HY.out).mono ?_
  rintro e w7 ⟨v7, rfl, o7, b7⟩
  have O57 := Lib.hid (O56.out.below b7)
  have O67 := Lib.hid (O6.out.below b7)
  have B7 := Lib.hid (bgo B6.out b7)
  rw [HLY.out] at o7
  have O7 := Lib.hid o7
  clear o7 b7 O56 O46 O6
  obtain ⟨a5, c5, rfl⟩ := O57.out.shape
  obtain ⟨a6, c6, rfl⟩ := O67.out.shape
  obtain ⟨a7, c7, rfl⟩ := O7.out.shape
  rw [HLL.out] at O57 O67 ⊢
  have hY : (Y.length : Int) ≤ 60 := by have := HL3.out; omega
  go_wp2
  go_loopw [14] (fun i wr => ∃ k : Nat, k ≤ Y.length ∧ i = .int .i64 (k : Int) ∧ Hid (Below W.heap.size W wr) ∧ Hid (Below w7.heap.size w7 wr)) (fun i _ => Y.length - (intOf i).toNat)
  case atStart => exact ⟨0, by omega, rfl, B7, Lib.hid (Below.refl _ _)⟩
  case round =>
    obtain ⟨k, hk, rfl, HB, HB7⟩ := hrel
    by_cases hlt : k < Y.length
    · obtain ⟨b, off, rfl, hb, hc⟩ := (O57.out.below HB7.out).at_ (k := k) (by rw [HLL.out]; exact hlt)
      obtain ⟨b2, off2, rfl, hb2, hc2⟩ := (O67.out.below HB7.out).at_ (k := k) (by rw [HLL.out]; exact hlt)
      obtain ⟨b3, off3, rfl, hb3, hc3⟩ := (O7.out.below HB7.out).at_ (k := k) (by rw [List.length_replicate]; exact hlt)
      rw [show (List.replicate Y.length true).getD k false = true by simp [List.getD, hlt]] at hc3
      have hki : (k : Int) < (Y.length : Int) := by omega
      generalize (shL X Y).getD k false = q at *
      go_wp2
      go_quiet (fail)
      go_wp2
      go_roundw
      case rel => exact ⟨k + 1, by omega, by go_num, Lib.hid (below_drewN HB.out _), Lib.hid (below_drewN HB7.out _)⟩
      case measure => simp [intOf]; omega
    · obtain rfl : k = Y.length := by omega
      go_wp2_with (go_at_call 7; refine (known14_any _).mono ?_; rintro e w' ⟨rfl, hb⟩)
      go_ret
      exact ⟨rfl, bgo HB.out hb⟩
end Go.Proofs.Ytbppdbfjhdhehaa
