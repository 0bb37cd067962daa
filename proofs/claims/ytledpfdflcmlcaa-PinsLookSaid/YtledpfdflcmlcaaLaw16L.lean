/- The walk of PinsLook. -/
import Derived.Test.YtledpfdflcmlcaaKn16
import Derived.Test.YtledpfdflcmlcaaArgsPn
import Derived.Test.YtledpfdflcmlcaaPnK
namespace Go.Proofs.Ytledpfdflcmlcaa
open Go.RowKit
set_option linter.unusedVariables false
set_option linter.unusedSimpArgs false
set_option maxRecDepth 100000 in
set_option maxHeartbeats 4000000 in
theorem pinsLook_walk (a0 : Option Addr) (len0 cap0 : Nat) (z0 : List Pn) (a1 a2 a3 : Int) (W : World) (w0 : InPn W a0 len0 cap0 z0) (w1 : (Lit.int .i64 a1).wf = true) (w2 : (Lit.int .i64 a2).wf = true) (w3 : (Lit.int .i64 a3).wf = true) :
    Calls Try.prog 4 #[.slice a0 len0 cap0, .int .i64 a1, .int .i64 a2, .int .i64 a3] W fun e w' => e = .returned (.bool true) ∧ Below W.heap.size W w' := by
  have hr := inPn_rd w0
  have hln : (z0.take len0).length = len0 := by rw [List.length_take]; have := w0.1; have := w0.2.2.1; omega
  have hmx : len0 ≤ 9223372036854775807 := by have h1 := w0.1; have h2 := w0.2.1; unfold maxLen at h2; omega
  generalize z0.take len0 = L at hr hln
  clear w0 w1 w2 w3
  subst hln
  by_cases hb : 50 < (L.length : Int)
  · clear hr
    go_enter Try.func4, Try.ntmps4
    go_wp2_with (go_at_call 15; refine (known16_any _).mono ?_; rintro e w9 ⟨rfl, hb9⟩; have H9 := Lib.hid hb9; clear hb9)
    go_ret
    exact ⟨rfl, H9.out⟩
  · have m1 := mask4k a3
    have m2 := mask4k (a3 / 16)
    have HR := Lib.hid (fun w' (hb' : Below W.heap.size W w') => hr.below hb')
    have HL := Lib.hid (show L.length ≤ 1000000000000 by omega)
    have H0 := Lib.hid (Below.refl W.heap.size W)
    clear hr
    generalize a3 % 16 = y at *
    generalize a3 / 16 % 16 = x at *
    go_enter Try.func4, Try.ntmps4
    go_wp2_with (first
      | (go_at_call 12; refine (pvalp_any L _ _ (HR.out _ H0.out) HL.out).mono ?_; rintro e u1 ⟨rfl, hb1⟩; have H1 := Lib.hid (bgo H0.out hb1); clear hb1 H0)
      | (go_at_call 13; refine (rvalp_any L _ _ (HR.out _ H1.out) HL.out).mono ?_; rintro e u2 ⟨rfl, hb2⟩; have H2 := Lib.hid (bgo H1.out hb2); clear hb2 H1)
      | (go_at_call 16; refine (ptotp_any L _ _ (HR.out _ H2.out) HL.out).mono ?_; rintro e u3 ⟨rfl, hb3⟩; have H3 := Lib.hid (bgo H2.out hb3); clear hb3 H2)
      | (go_at_call 17; refine (rtotp_any L _ _ (HR.out _ H3.out) HL.out).mono ?_; rintro e u4 ⟨rfl, rfl⟩; have H4 := H3; clear H3)
      | (go_at_call 18; refine (pcovp_any L _ a1 a2 _ (HR.out _ H4.out) HL.out).mono ?_; rintro e u5 ⟨rfl, hb5⟩; have H5 := Lib.hid (bgo H4.out hb5); clear hb5 H4)
      | (go_at_call 19; refine (rcovp_any L _ a1 a2 _ (HR.out _ H5.out) HL.out).mono ?_; rintro e u6 ⟨rfl, rfl⟩; have H6 := H5; clear H5)
      | (go_at_call 18; refine (pcovp_any L _ y x _ (HR.out _ H6.out) HL.out).mono ?_; rintro e u7 ⟨rfl, hb7⟩; have H7 := Lib.hid (bgo H6.out hb7); clear hb7 H6)
      | (go_at_call 19; refine (rcovp_any L _ y x _ (HR.out _ H7.out) HL.out).mono ?_; rintro e u8 ⟨rfl, rfl⟩; have H8 := H7; clear H7)
      | (go_at_call 15; refine (known16_any _).mono ?_; rintro e u9 ⟨rfl, hb9⟩; have H9 := Lib.hid (bgo H8.out hb9); clear hb9 H8))
    go_ret
    exact ⟨rfl, H9.out⟩
end Go.Proofs.Ytledpfdflcmlcaa
