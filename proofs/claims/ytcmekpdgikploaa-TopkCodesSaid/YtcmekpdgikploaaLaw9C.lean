/- The walk of the law TopkCodes. -/
import Derived.Test.YtcmekpdgikploaaSkT
import Derived.Test.YtcmekpdgikploaaSpoil9
import Derived.Test.YtcmekpdgikploaaKnown9
import Derived.Test.YtcmekpdgikploaaTkAll
import Derived.Test.YtcmekpdgikploaaRdIn
namespace Go.Proofs.Ytcmekpdgikploaa
open Go.RowKit
set_option linter.unusedVariables false
set_option linter.unusedSimpArgs false
theorem dec9_len (L : List Int) : (dec9 L).L.length ≤ 32 := by
  unfold dec9
  split
  · rename_i h
    show (esE (qR L) (qN L).toNat).length ≤ 32
    rw [esE_len]
    have := h.2.1
    omega
  · exact Nat.zero_le _
set_option maxRecDepth 100000 in
set_option maxHeartbeats 4000000 in
theorem topkCodes_walk (S : Int) (al : Option Addr) (ln cap : Nat) (z : List Int) (n : Int) (bl : Option Addr) (lm cbp : Nat) (y : List Int) (W : World) (wa : (Lit.int .i64 S).wf = true) (w0 : InRow .i64 W al ln cap z) (wn : (Lit.int .i64 n).wf = true) (w1 : InRow .u8 W bl lm cbp y) :
    Calls Try.prog 5 #[.int .i64 S, .slice al ln cap, .int .i64 n, .slice bl lm cbp] W fun e w' => e = .returned (.bool true) ∧ Below W.heap.size W w' := by
  have gn : lm ≤ 9223372036854775807 := by have := w1.1; have := w1.2.1; unfold maxLen at this; omega
  by_cases hn : 300 < lm
  · clear wa wn w0 w1
    go_enter Try.func5, Try.ntmps5
    go_wp2_with (go_at_call 19; refine (known_any _).mono ?_; rintro e w2 ⟨rfl, hb2⟩)
    go_ret
    exact ⟨rfl, hb2⟩
  · have hn2 : (lm : Int) ≤ 300 := by omega
    obtain ⟨S0, S1⟩ := wf_bd wa
    obtain ⟨n0, n1⟩ := wf_bd wn
    have h1 := made_any S (z.take ln) _ W S0 S1 (inRow_rdJ w0)
    have hm := Lib.hid (madeT_ok S (z.take ln))
    generalize madeT S (z.take ln) = cm at *
    have h2 := fun (v : Value) (w : World) (hv : RdT cm v w) => spoil_any cm v n w hm.out.1 hv (by have := hm.out.2.2; omega) n0 n1
    have HC := Lib.hid (inRow_rd w1)
    generalize y.take lm = L at *
    have HD1 := Lib.hid (fun x (hb : Below W.heap.size W x) => tdec_any L (.slice bl lm cbp) x (HC.out.below hb))
    have HD2 := Lib.hid (fun x (hb : Below W.heap.size W x) => rtdec_any L (.slice bl lm cbp) x (HC.out.below hb))
    have HDL := Lib.hid (dec9_len L)
    generalize dec9 L = d at *
    generalize err9 L = DE at *
    clear wa wn w0 w1
    go_enter Try.func5, Try.ntmps5
    go_wp2_with (first
      | (go_at_call 10; (with_reducible refine h1.mono ?_); rintro e w2 ⟨v2, B2v, rfl, hr2, hb2⟩; have O2 := Lib.hid hr2.rd; have B2 := Lib.hid hb2; clear h1 hr2 hb2)
      | (go_at_call 9; (with_reducible refine (h2 _ _ O2.out).mono ?_); rintro e w3 ⟨c, v3, rfl, hwc, ⟨a3, n3, c3, rfl, ho3⟩, hlc, hb3⟩; have HWc := Lib.hid hwc; have HLc := Lib.hid hlc; have S3 := Lib.hid (SkT.new ho3); have B3 := Lib.hid (bal (bgo B2.out hb3) (.cells #[.int .i64 c.S, .int .i64 c.T, .slice a3 n3 c3, .bool c.s] 25)); clear h2 hwc hlc ho3 hb3 B2 O2 hm; have f1 := (fun (w : World) (hv : RdE c.L (.slice a3 n3 c3) w) => penc_any c.S c.T c.L c.s a3 n3 c3 w HWc.out.b0 HWc.out.b1 HWc.out.b2 HWc.out.b3 hv (by have := HLc.out; omega)); have f2 := (fun (w : World) (hv : RdE c.L (.slice a3 n3 c3) w) => renc9_any c.S c.T c.L c.s a3 n3 c3 w HWc.out.b0 HWc.out.b1 HWc.out.b2 HWc.out.b3 hv (by have := HLc.out; omega)); have HBK : Hid (∀ h : valE c.S c.T c.L = 0, dec9 (cod9 c.S c.T c.L c.s) = c ∧ err9 (cod9 c.S c.T c.L c.s) = 0) := Lib.hid (fun h => dec9_cod c.s h); generalize cod9 c.S c.T c.L c.s = R at *; generalize valE c.S c.T c.L = E at *; obtain ⟨p0, p1, p2, p3⟩ := S3.out.cells)
      | (go_at_call 22; (with_reducible refine (f1 _ S3.out.rdE).mono ?_); rintro e w4 ⟨v4, rfl, ho4, hb4⟩; have S4 := Lib.hid (S3.out.go hb4); have B4 := Lib.hid (bgo B3.out hb4); have O4 := Lib.hid ho4.rd; clear f1 ho4 hb4 S3 B3 p0 p1 p2 p3; obtain ⟨p0, p1, p2, p3⟩ := S4.out.cells)
      | (go_at_call 23; (with_reducible refine (f2 _ S4.out.rdE).mono ?_); rintro e w5 ⟨v5, rfl, ho5, hb5⟩; have S5 := Lib.hid (S4.out.go hb5); have B5 := Lib.hid (bgo B4.out hb5); have P5 := Lib.hid ho5.rd; have O5 := Lib.hid (O4.out.below hb5); clear f2 ho5 hb5 S4 B4 O4 p0 p1 p2 p3)
      | (go_at_call 24; (with_reducible refine (HD1.out _ B5.out).mono ?_); rintro e w6 ⟨u6, rfl, ⟨a6, n6, c6, rfl, ho6⟩, hb6⟩; have HDD := Lib.hid (SkT.new ho6.rd); have S6 := Lib.hid ((S5.out.go hb6).alloc (.cells #[.int .i64 d.S, .int .i64 d.T, .slice a6 n6 c6, .bool d.s] 25)); have B6 := Lib.hid (bal (bgo B5.out hb6) (.cells #[.int .i64 d.S, .int .i64 d.T, .slice a6 n6 c6, .bool d.s] 25)); have P6 := Lib.hid ((P5.out.below hb6).below (b1 (.cells #[.int .i64 d.S, .int .i64 d.T, .slice a6 n6 c6, .bool d.s] 25))); have O6 := Lib.hid ((O5.out.below hb6).below (b1 (.cells #[.int .i64 d.S, .int .i64 d.T, .slice a6 n6 c6, .bool d.s] 25))); clear ho6 hb6 S5 B5 P5 O5)
      | (go_at_call 25; (with_reducible refine (HD2.out _ B6.out).mono ?_); rintro e w7 ⟨u7, rfl, ⟨a7, n7, c7, rfl, ho7⟩, hb7⟩; have HEE := Lib.hid (SkT.new ho7.rd); have HD7 := Lib.hid ((HDD.out.go hb7).alloc (.cells #[.int .i64 d.S, .int .i64 d.T, .slice a7 n7 c7, .bool d.s] 25)); have S7 := Lib.hid ((S6.out.go hb7).alloc (.cells #[.int .i64 d.S, .int .i64 d.T, .slice a7 n7 c7, .bool d.s] 25)); have B7 := Lib.hid (bal (bgo B6.out hb7) (.cells #[.int .i64 d.S, .int .i64 d.T, .slice a7 n7 c7, .bool d.s] 25)); have P7 := Lib.hid ((P6.out.below hb7).below (b1 (.cells #[.int .i64 d.S, .int .i64 d.T, .slice a7 n7 c7, .bool d.s] 25))); have O7 := Lib.hid ((O6.out.below hb7).below (b1 (.cells #[.int .i64 d.S, .int .i64 d.T, .slice a7 n7 c7, .bool d.s] 25))); clear ho7 hb7 S6 B6 P6 O6 HDD; have cv1 := O7.out.conv; have cv2 := P7.out.conv; obtain ⟨p0, p1, p2, p3⟩ := S7.out.cells; obtain ⟨q0, q1, q2, q3⟩ := HD7.out.cells; obtain ⟨t0, t1, t2, t3⟩ := HEE.out.cells)
      | (go_at_call 16; (with_reducible refine (sameT_any d _ _ _ HD7.out.rd HEE.out.rd (by have := HDL.out; omega)).mono ?_); rintro e w8 ⟨rfl, hb8⟩; have S8 := Lib.hid (S7.out.go hb8); have B8 := Lib.hid (bgo B7.out hb8); have O8 := Lib.hid (O7.out.below hb8); clear hb8 S7 B7 O7 P7 HD7 HEE cv1 cv2 p0 p1 p2 p3 q0 q1 q2 q3 t0 t1 t2 t3)
      | (go_at_call 24; (have hE : E = 0 := eq_of_beq (by assumption)); obtain ⟨k1, k2⟩ := HBK.out hE; have hd := tdec_any R v4 _ O8.out; rw [k1, k2] at hd; clear k1 k2 hE; (with_reducible refine hd.mono ?_); rintro e w9 ⟨u9, rfl, ⟨a9, n9, c9, rfl, ho9⟩, hb9⟩; have D9 := Lib.hid (SkT.new ho9.rd); have S9 := Lib.hid ((S8.out.go hb9).alloc (.cells #[.int .i64 c.S, .int .i64 c.T, .slice a9 n9 c9, .bool c.s] 25)); have B9 := Lib.hid (bal (bgo B8.out hb9) (.cells #[.int .i64 c.S, .int .i64 c.T, .slice a9 n9 c9, .bool c.s] 25)); clear ho9 hb9 S8 B8 O8 hd; obtain ⟨p0, p1, p2, p3⟩ := S9.out.cells; obtain ⟨q0, q1, q2, q3⟩ := D9.out.cells)
      | (go_at_call 16; (with_reducible refine (sameT_any c _ _ _ S9.out.rd D9.out.rd (by have := HLc.out; omega)).mono ?_); rintro e w10 ⟨rfl, hb10⟩; have B10 := Lib.hid (bgo B9.out hb10); clear hb10 S9 B9 D9 p0 p1 p2 p3 q0 q1 q2 q3)
      | (go_at_call 19; (with_reducible refine (known_any _).mono ?_); rintro e wz ⟨rfl, hbz⟩; have BZ : Hid (Below W.heap.size W wz) := Lib.hid (by first | exact bgo B10.out hbz | exact bgo B8.out hbz); clear hbz))
    all_goals
      go_ret
      exact ⟨rfl, BZ.out⟩
end Go.Proofs.Ytcmekpdgikploaa
