/- The walk of DirectoryUnbinds. -/
import Derived.Test.YtpehbfghajlgmaaLaw18B
namespace Go.Proofs.Ytpehbfghajlgmaa
open Go.RowKit
set_option linter.unusedVariables false
set_option linter.unusedSimpArgs false
theorem six_at (w : World) (i : Nat) (h : i < 6) : ∃ nm, (w.alloc (.cells #[.string ⟨#[97]⟩, .string ⟨#[98]⟩, .string ⟨#[99]⟩, .string ⟨#[]⟩, .string ⟨#[100]⟩, .string ⟨#[120, 49]⟩] 9)).cell? ⟨w.heap.size, i, none⟩ = some (.string nm) ∧ SixN nm := by
  have h6 : i = 0 ∨ i = 1 ∨ i = 2 ∨ i = 3 ∨ i = 4 ∨ i = 5 := by omega
  rcases h6 with rfl | rfl | rfl | rfl | rfl | rfl
  · exact ⟨_, by go_simp, .inl rfl⟩
  · exact ⟨_, by go_simp, .inr (.inl rfl)⟩
  · exact ⟨_, by go_simp, .inr (.inr (.inl rfl))⟩
  · exact ⟨_, by go_simp, .inr (.inr (.inr (.inl rfl)))⟩
  · exact ⟨_, by go_simp, .inr (.inr (.inr (.inr (.inl rfl))))⟩
  · exact ⟨_, by go_simp, .inr (.inr (.inr (.inr (.inr rfl))))⟩
set_option maxRecDepth 100000 in
set_option maxHeartbeats 8000000 in
theorem directoryUnbinds_walk (a0 : Option Addr) (len0 cap0 : Nat) (z0 : List Int) (a1 : Int) (W : World) (w0 : InRow .i64 W a0 len0 cap0 z0) (w1 : (Lit.int .i64 a1).wf = true) :
    Calls Try.prog 4 #[.slice a0 len0 cap0, .int .i64 a1] W fun e w' => e = .returned (.bool true) ∧ Below W.heap.size W w' := by
  have hmade := made18_any (fun _ _ _ => True) keepsT (z0.take len0) _ W (inRow_rdJ w0)
  have HSP := Lib.hid (fun (M : List Bg) (u : Value) (w : World) (h : RdBg M u w) (hl : M.length ≤ 1000) => spoil_any M u a1 w h hl)
  clear w0 w1
  have m1 := bmask3 (a1 / 4096)
  have m2 := bmask2 (a1 / 32768)
  have m3 := bmask3 (a1 / 131072)
  have m4 := bmask3 (a1 / 4194304)
  have r1 : 0 ≤ a1 / 4096 % 8 := by omega
  have r2 : 0 ≤ a1 / 32768 % 4 ∧ a1 / 32768 % 4 ≤ 3 := by omega
  have r3 : 0 ≤ a1 / 131072 % 8 ∧ a1 / 131072 % 8 ≤ 7 := by omega
  have r4 : 0 ≤ a1 / 4194304 % 8 := by omega
  generalize a1 / 4096 % 8 = x1 at *
  generalize a1 / 32768 % 4 = x2 at *
  generalize a1 / 131072 % 8 = x3 at *
  generalize a1 / 4194304 % 8 = x4 at *
  obtain ⟨q, hq, q0, q1⟩ := tq7 r3
  obtain ⟨i, hi, hi6⟩ := tmod_nat r1 (n := 6) (by decide)
  obtain ⟨j, hj, hj6⟩ := tmod_nat r4 (n := 6) (by decide)
  have hi : Int.tmod x1 6 = (i : Int) := hi
  have hj : Int.tmod x4 6 = (j : Int) := hj
  have hi7 : (i : Int) < 6 := by omega
  have hj7 : (j : Int) < 6 := by omega
  have y20 := r2.1
  have y21 := r2.2
  clear r1 r2 r3 r4
  go_enter Try.func4, Try.ntmps4
  go_upto_region 4 with (first
    | (go_at_call 7; refine hmade.mono ?_; rintro e u1 ⟨M, u, cc, hl, rfl, hc, ho, -, hb⟩; have HS := Lib.hid (HSP.out M u u1 ho.rd (by omega)); have B1 := Lib.hid hb; have HL := Lib.hid hl; obtain ⟨k1, k2⟩ := hc; clear ho hb hl hmade)
    | (go_at_call 8; refine HS.out.mono ?_; rintro e u2 ⟨v, N, rfl, hr, hn, hb⟩; have HR2 := Lib.hid hr; have HN : Hid (N.length ≤ 1000) := Lib.hid (by have := HL.out; omega); have B2 := Lib.hid (bgo B1.out hb); clear hr hn hb HS))
  obtain ⟨nm, cx, hx⟩ := six_at u2 i hi6
  obtain ⟨tn, cy, hy⟩ := six_at u2 j hj6
  have HX := Lib.hid hx.ok
  have HY := Lib.hid hy.ok
  have B3 := Lib.hid (bal B2.out (.cells #[.string ⟨#[97]⟩, .string ⟨#[98]⟩, .string ⟨#[99]⟩, .string ⟨#[]⟩, .string ⟨#[100]⟩, .string ⟨#[120, 49]⟩] 9))
  have HR := Lib.hid (HR2.out.below (b1 (.cells #[.string ⟨#[97]⟩, .string ⟨#[98]⟩, .string ⟨#[99]⟩, .string ⟨#[]⟩, .string ⟨#[100]⟩, .string ⟨#[120, 49]⟩] 9)))
  clear hx hy hi6 hj6 B2 HR2
  generalize u2.alloc (.cells #[.string ⟨#[97]⟩, .string ⟨#[98]⟩, .string ⟨#[99]⟩, .string ⟨#[]⟩, .string ⟨#[100]⟩, .string ⟨#[120, 49]⟩] 9) = u3 at *
  go_quiet (fail)
  have HRR : Hid (∀ w', Below u3.heap.size u3 w' → RdBg N v w') := Lib.hid (fun w' h => HR.out.below h)
  have G3 : Hid (∀ n, Below u3.heap.size u3 (u3.drewN n)) := Lib.hid (fun n => below_drewN (Below.refl _ _) n)
  have HBB : Hid (∀ w', Below u3.heap.size u3 w' → Below W.heap.size W w') := Lib.hid (fun w' h => bgo B3.out h)
  clear cx cy
  go_wp2_with (first
    | (go_at_call 13; refine (punb_any N v nm _ _ (HRR.out _ (G3.out _)) (by have := HN.out; omega) HX.out (by omega)).mono ?_; rintro e u4 ⟨va, R, rfl, ho, hz, hn, hb⟩; have HOA := Lib.hid ho; have HZA := Lib.hid hz; have HNA := Lib.hid hn; have G4 := Lib.hid (bgo (G3.out _) hb); clear ho hz hn hb)
    | (go_at_call 14; refine (runb_any N v nm _ _ (HRR.out _ G4.out) (by have := HN.out; omega) HX.out (by omega)).mono ?_; rintro e u5 ⟨vb, S, rfl, ho, hz, hn, hb⟩; have hRS := out_same EndB.uniq HZA.out HNA.out hz hn; subst hRS; have HRL := Lib.hid (out_len (n := N.length + 1) EndB.len HZA.out HNA.out); have HRA := Lib.hid (HOA.out.rd.below hb); have HRB := Lib.hid ho.rd; have G5 := Lib.hid (bgo G4.out hb); clear ho hz hn hb)
    | (go_at_call 15; refine (pren_any N v nm tn _ _ (HRR.out _ G5.out) (by have := HN.out; omega) HX.out HY.out (by omega)).mono ?_; rintro e u6 ⟨vc, T, rfl, ho, hz, hn, hb⟩; have HOC := Lib.hid ho; have HZC := Lib.hid hz; have HNC := Lib.hid hn; have HRA6 := Lib.hid (HRA.out.below hb); have HRB6 := Lib.hid (HRB.out.below hb); have G6 := Lib.hid (bgo G5.out hb); clear ho hz hn hb)
    | (go_at_call 16; refine (rren_any N v nm tn _ _ (HRR.out _ G6.out) (by have := HN.out; omega) HX.out HY.out (by omega)).mono ?_; rintro e u7 ⟨vd, U, rfl, ho, hz, hn, hb⟩; have hTU := out_same MovB.uniq HZC.out HNC.out hz hn; subst hTU; have HTL := Lib.hid (out_len (n := N.length + 1) MovB.len HZC.out HNC.out); have HRC := Lib.hid (HOC.out.rd.below hb); have HRD := Lib.hid ho.rd; have HRA7 := Lib.hid (HRA6.out.below hb); have HRB7 := Lib.hid (HRB6.out.below hb); have G7 := Lib.hid (bgo G6.out hb); clear ho hz hn hb)
    | (go_at_call 11; (with_reducible refine (rsameb_any R va vb u7 HRA7.out HRB7.out (by have := HRL.out; have := HN.out; omega)).mono ?_); rintro e u8 ⟨rfl, hb⟩; have HRC8 := Lib.hid (HRC.out.below hb); have HRD8 := Lib.hid (HRD.out.below hb); have G8 := Lib.hid (bgo G7.out hb); clear hb)
    | (go_at_call 11; (with_reducible refine (rsameb_any T vc vd u8 HRC8.out HRD8.out (by have := HTL.out; have := HN.out; omega)).mono ?_); rintro e u9 ⟨rfl, hb⟩; have B8 := Lib.hid (HBB.out _ (bgo G8.out hb)); clear hb)
    | (go_at_call 12; refine (known18_any _).mono ?_; rintro e u9 ⟨rfl, hb⟩; have B9 := Lib.hid (bgo B8.out hb); clear hb))
  go_ret
  exact ⟨rfl, B9.out⟩
end Go.Proofs.Ytpehbfghajlgmaa
