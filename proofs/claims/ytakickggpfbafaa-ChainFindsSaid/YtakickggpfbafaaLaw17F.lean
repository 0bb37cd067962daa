/- The walk of ChainFinds. -/
import Derived.Test.YtakickggpfbafaaChC
import Derived.Test.YtakickggpfbafaaChK
import Derived.Test.YtakickggpfbafaaArgsVs
namespace Go.Proofs.Ytakickggpfbafaa
open Go.RowKit
set_option linter.unusedVariables false
set_option linter.unusedSimpArgs false
set_option maxRecDepth 100000 in
set_option maxHeartbeats 4000000 in
theorem chainFinds_walk (a0 : Option Addr) (len0 cap0 : Nat) (z0 : List Vs) (a1 : Option Addr) (len1 cap1 : Nat) (z1 : List Int) (a2 a3 : Int) (W : World) (w0 : InVs W a0 len0 cap0 z0) (w1 : InRow .i64 W a1 len1 cap1 z1) (w2 : (Lit.int .i64 a2).wf = true) (w3 : (Lit.int .i64 a3).wf = true) :
    Calls Try.prog 3 #[.slice a0 len0 cap0, .slice a1 len1 cap1, .int .i64 a2, .int .i64 a3] W fun e w' => e = .returned (.bool true) ∧ Below W.heap.size W w' := by
  have hr := inVs_rd w0
  have hmade := made17_any (z1.take len1) _ W (inRow_rdJ w1)
  have hln : (z0.take len0).length = len0 := by rw [List.length_take]; have := w0.1; have := w0.2.2.1; omega
  have hmx : len0 ≤ 9223372036854775807 := by have h1 := w0.1; have h2 := w0.2.1; unfold maxLen at h2; omega
  generalize z0.take len0 = L at hr hln
  clear w0 w1 w2 w3
  subst hln
  by_cases hb : 30 < (L.length : Int)
  · clear hr hmade
    go_enter Try.func3, Try.ntmps3
    go_wp2_with (go_at_call 7; refine (known17_any _).mono ?_; rintro e w9 ⟨rfl, hb9⟩; have H9 := Lib.hid hb9; clear hb9)
    go_ret
    exact ⟨rfl, H9.out⟩
  · have m1 := mask5k a3
    have HR := Lib.hid (fun w' (hb' : Below W.heap.size W w') => hr.below hb')
    have HL := Lib.hid (show L.length ≤ 1000000000000 by omega)
    have H0 := Lib.hid (Below.refl W.heap.size W)
    clear hr
    generalize a3 % 32 = y at *
    go_enter Try.func3, Try.ntmps3
    go_upto_region 4 with (go_at_call 8; refine hmade.mono ?_; rintro e u1 ⟨M, N, u, hl, rfl, ho, hm, -, hb1⟩; have H1 := Lib.hid (bgo H0.out hb1); have HS := Lib.hid (fun w' (hb' : Below u1.heap.size u1 w') => ho.rd.below hb'); have HM := Lib.hid (show M.length ≤ 1000000000000 by have := hm.len; omega); obtain ⟨ua, uc, rfl⟩ := ho.rd.shape; clear hb1 ho hm hl hmade)
    have G1 := Lib.hid (Below.refl u1.heap.size u1)
    go_wp2_with (first
      | (go_at_call 9; refine (pfindc_any L _ a2 _ (HR.out _ H1.out) HL.out).mono ?_; rintro e u2 ⟨rfl, hb2⟩; have H2 := Lib.hid (bgo H1.out hb2); have G2 := Lib.hid (bgo G1.out hb2); clear hb2 H1 G1)
      | (go_at_call 10; refine (rfindc_any L _ a2 _ (HR.out _ H2.out) HL.out).mono ?_; rintro e u3 ⟨rfl, hb3⟩; have H3 := Lib.hid (bgo H2.out hb3); have G3 := Lib.hid (bgo G2.out hb3); clear hb3 H2 G2)
      | (go_at_call 9; refine (pfindc_any M _ y _ (HS.out _ G3.out) HM.out).mono ?_; rintro e u4 ⟨rfl, hb4⟩; have H4 := Lib.hid (bgo H3.out hb4); have G4 := Lib.hid (bgo G3.out hb4); clear hb4 H3 G3)
      | (go_at_call 10; refine (rfindc_any M _ y _ (HS.out _ G4.out) HM.out).mono ?_; rintro e u5 ⟨rfl, hb5⟩; have H5 := Lib.hid (bgo H4.out hb5); have G5 := Lib.hid (bgo G4.out hb5); clear hb5 H4 G4)
      | (go_at_call 11; refine (pvalc_any L _ _ (HR.out _ H5.out) HL.out).mono ?_; rintro e u6 ⟨rfl, hb6⟩; have H6 := Lib.hid (bgo H5.out hb6); have G6 := Lib.hid (bgo G5.out hb6); clear hb6 H5 G5)
      | (go_at_call 12; refine (rvalc_any L _ _ (HR.out _ H6.out) HL.out).mono ?_; rintro e u7 ⟨rfl, hb7⟩; have H7 := Lib.hid (bgo H6.out hb7); have G7 := Lib.hid (bgo G6.out hb7); clear hb7 H6 G6)
      | (go_at_call 11; refine (pvalc_any M _ _ (HS.out _ G7.out) HM.out).mono ?_; rintro e u8 ⟨rfl, hb8⟩; have H8 := Lib.hid (bgo H7.out hb8); have G8 := Lib.hid (bgo G7.out hb8); clear hb8 H7 G7)
      | (go_at_call 12; refine (rvalc_any M _ _ (HS.out _ G8.out) HM.out).mono ?_; rintro e u9 ⟨rfl, hb9⟩; have H9 := Lib.hid (bgo H8.out hb9); have G9 := Lib.hid (bgo G8.out hb9); clear hb9 H8 G8)
      | (go_at_call 7; refine (known17_any _).mono ?_; rintro e u10 ⟨rfl, hb10⟩; have H10 := Lib.hid (bgo H9.out hb10); have G10 := Lib.hid (bgo G9.out hb10); clear hb10 H9 G9))
    go_ret
    exact ⟨rfl, H10.out⟩
end Go.Proofs.Ytakickggpfbafaa
