/- The walk of the law LoglogCodes. -/
import Derived.Test.YtgnopnifdiipkaaDoorLPEnc
import Derived.Test.YtgnopnifdiipkaaDoorLPDec
import Derived.Test.YtgnopnifdiipkaaDoorRLDec
import Derived.Test.YtgnopnifdiipkaaDoorLlPure
import Derived.Test.YtgnopnifdiipkaaDoorMade8
import Derived.Test.YtgnopnifdiipkaaDoorSpoil8
import Derived.Test.YtgnopnifdiipkaaDoorKnown8
import Derived.Test.YtgnopnifdiipkaaDoorSameL
import Derived.Test.YtgnopnifdiipkaaDoorSkL
import Derived.Test.YtgnopnifdiipkaaDoorRdIn
import Derived.Test.YtgnopnifdiipkaaDoorLlBack
namespace Go.Proofs.YtgnopnifdiipkaaDoor
open Go.RowKit
set_option linter.unusedVariables false
set_option linter.unusedSimpArgs false
set_option maxRecDepth 100000 in
set_option maxHeartbeats 4000000 in
theorem loglogCodes_walk (a s : Int) (al : Option Addr) (ln cap : Nat) (z : List Int) (n : Int) (bl : Option Addr) (lm cbp : Nat) (y : List Int) (W : World) (wa : (Lit.int .i64 a).wf = true) (ws : (Lit.int .i64 s).wf = true) (w0 : InRow .i64 W al ln cap z) (wn : (Lit.int .i64 n).wf = true) (w1 : InRow .u8 W bl lm cbp y) (ht : TabF W) :
    Calls Tryd.prog 7 #[.int .i64 a, .int .i64 s, .slice al ln cap, .int .i64 n, .slice bl lm cbp] W fun e w' => e = .returned (.bool true) ∧ Below W.heap.size W w' := by
  have HT := Lib.hid ht
  clear ht
  have gn : lm ≤ 9223372036854775807 := by have := w1.1; have := w1.2.1; unfold maxLen at this; omega
  by_cases hn : 300 < lm
  · clear wa ws wn w0 w1
    go_enter Tryd.func7, Tryd.ntmps7
    go_wp2_with (go_at_call 10; refine (known_any _ HT.out).mono ?_; rintro e w2 ⟨rfl, hb2⟩)
    go_ret
    exact ⟨rfl, hb2⟩
  · have hn2 : (lm : Int) ≤ 300 := by omega
    obtain ⟨s0, s1⟩ := wf_bd ws
    obtain ⟨n0, n1⟩ := wf_bd wn
    have hx := wrap_bd s
    have h1 := made_any a s (z.take ln) _ W s0 s1 (inRow_rdJ w0)
    have hm := Lib.hid (upL_ok a (IntKind.u64.wrap s) ((z.take ln).take 9) hx.1 hx.2)
    unfold madeL at h1
    generalize ldUp (newL (2 + a % 4) (IntKind.u64.wrap s)) ((z.take ln).take 9) = cm at *
    have h2 := fun (v : Value) (w : World) (hv : RdL cm v w) => spoil_any cm v n w hm.out.1 hv hm.out.2.1 hm.out.2.2.1 hm.out.2.2.2.1 hm.out.2.2.2.2 n0 n1
    have HC := Lib.hid (inRow_rd w1)
    generalize y.take lm = L at *
    have HD1 := Lib.hid (fun x (hb : Below W.heap.size W x) => ldec_any L (.slice bl lm cbp) x (HC.out.below hb))
    have HD2 := Lib.hid (fun x (hb : Below W.heap.size W x) => rldec_any L (.slice bl lm cbp) x (HC.out.below hb))
    generalize decL L = d at *
    generalize decLE L = DE at *
    clear wa ws wn w0 w1 hx
    go_enter Tryd.func7, Tryd.ntmps7
    go_wp2_with (first
      | (go_at_call 17; (with_reducible refine h1.mono ?_); rintro e w2 ⟨v2, rfl, hr2, hb2⟩; have O2 := Lib.hid hr2; have B2 := Lib.hid hb2; clear h1 hr2 hb2)
      | (go_at_call 16; (with_reducible refine (h2 _ _ O2.out).mono ?_); rintro e w3 ⟨c, v3, rfl, hwc, ⟨a3, n3, c3, rfl, ho3⟩, hb3⟩; have HWc := Lib.hid hwc; have S3 := Lib.hid (SkL.new ho3 26); have B3 := Lib.hid (bal (bgo B2.out hb3) (.cells #[.int .i64 c.P, .int .u64 c.x, .slice a3 n3 c3] 26)); clear h2 hwc ho3 hb3 B2 O2 hm; have f1 := (fun (w : World) (hv : RdL c (.agg #[.int .i64 c.P, .int .u64 c.x, .slice a3 n3 c3]) w) => lenc_any c _ w HWc.out.1 HWc.out.2 hv); have f2 := (fun (w : World) (hv : RdL c (.agg #[.int .i64 c.P, .int .u64 c.x, .slice a3 n3 c3]) w) => rlenc_any c _ w HWc.out.1 HWc.out.2 hv); have HBK := Lib.hid (fun h => dec_codL (c := c) h HWc.out.1 HWc.out.2); generalize codL c = R at *; generalize llE c.P c.L = E at *)
      | (go_at_call 27; (with_reducible refine (f1 _ S3.out.rd).mono ?_); rintro e w4 ⟨v4, rfl, ho4, hb4⟩; have S4 := Lib.hid (S3.out.below hb4); have B4 := Lib.hid (bgo B3.out hb4); have O4 := Lib.hid ho4.rd; clear f1 ho4 hb4 S3 B3; obtain ⟨⟨⟨p0, p1, p2⟩, _⟩, _⟩ := S4.out)
      | (go_at_call 28; (with_reducible refine (f2 _ S4.out.rd).mono ?_); rintro e w5 ⟨v5, rfl, ho5, hb5⟩; have S5 := Lib.hid (S4.out.below hb5); have B5 := Lib.hid (bgo B4.out hb5); have P5 := Lib.hid ho5.rd; have O5 := Lib.hid (O4.out.below hb5); clear f2 ho5 hb5 S4 B4 O4 p0 p1 p2)
      | (go_at_call 29; (with_reducible refine (HD1.out _ B5.out).mono ?_); rintro e w6 ⟨u6, rfl, ⟨a6, n6, c6, rfl, ho6⟩, hb6⟩; have HDD := Lib.hid (SkL.new ho6.rd 26); have S6 := Lib.hid ((S5.out.below hb6).alloc (.cells #[.int .i64 d.P, .int .u64 d.x, .slice a6 n6 c6] 26)); have B6 := Lib.hid (bal (bgo B5.out hb6) (.cells #[.int .i64 d.P, .int .u64 d.x, .slice a6 n6 c6] 26)); have P6 := Lib.hid ((P5.out.below hb6).below (b1 (.cells #[.int .i64 d.P, .int .u64 d.x, .slice a6 n6 c6] 26))); have O6 := Lib.hid ((O5.out.below hb6).below (b1 (.cells #[.int .i64 d.P, .int .u64 d.x, .slice a6 n6 c6] 26))); clear ho6 hb6 S5 B5 P5 O5)
      | (go_at_call 30; (with_reducible refine (HD2.out _ B6.out).mono ?_); rintro e w7 ⟨u7, rfl, ⟨a7, n7, c7, rfl, ho7⟩, hb7⟩; have HEE := Lib.hid (SkL.new ho7.rd 26); have HD7 := Lib.hid ((HDD.out.below hb7).alloc (.cells #[.int .i64 d.P, .int .u64 d.x, .slice a7 n7 c7] 26)); have S7 := Lib.hid ((S6.out.below hb7).alloc (.cells #[.int .i64 d.P, .int .u64 d.x, .slice a7 n7 c7] 26)); have B7 := Lib.hid (bal (bgo B6.out hb7) (.cells #[.int .i64 d.P, .int .u64 d.x, .slice a7 n7 c7] 26)); have P7 := Lib.hid ((P6.out.below hb7).below (b1 (.cells #[.int .i64 d.P, .int .u64 d.x, .slice a7 n7 c7] 26))); have O7 := Lib.hid ((O6.out.below hb7).below (b1 (.cells #[.int .i64 d.P, .int .u64 d.x, .slice a7 n7 c7] 26))); clear ho7 hb7 S6 B6 P6 O6 HDD; have cv1 := O7.out.conv; have cv2 := P7.out.conv; obtain ⟨⟨⟨p0, p1, p2⟩, _⟩, _⟩ := S7.out; obtain ⟨⟨⟨q0, q1, q2⟩, _⟩, _⟩ := HD7.out; obtain ⟨⟨⟨t0, t1, t2⟩, _⟩, _⟩ := HEE.out)
      | (go_at_call 15; (with_reducible refine (sameL_any d _ _ _ HD7.out.rd HEE.out.rd).mono ?_); rintro e w8 ⟨rfl, hb8⟩; have S8 := Lib.hid (S7.out.below hb8); have B8 := Lib.hid (bgo B7.out hb8); have O8 := Lib.hid (O7.out.below hb8); clear hb8 S7 B7 O7 P7 HD7 HEE cv1 cv2 p0 p1 p2 q0 q1 q2 t0 t1 t2)
      | (go_at_call 29; (have hE : E = 0 := eq_of_beq (by assumption)); obtain ⟨k1, k2⟩ := HBK.out hE; have hd := ldec_any R v4 _ O8.out; rw [k1, k2] at hd; clear k1 k2 hE; (with_reducible refine hd.mono ?_); rintro e w9 ⟨u9, rfl, ⟨a9, n9, c9, rfl, ho9⟩, hb9⟩; have D9 := Lib.hid (SkL.new ho9.rd 26); have S9 := Lib.hid ((S8.out.below hb9).alloc (.cells #[.int .i64 c.P, .int .u64 c.x, .slice a9 n9 c9] 26)); have B9 := Lib.hid (bal (bgo B8.out hb9) (.cells #[.int .i64 c.P, .int .u64 c.x, .slice a9 n9 c9] 26)); clear ho9 hb9 S8 B8 O8 hd; obtain ⟨⟨⟨p0, p1, p2⟩, -⟩, -⟩ := S9.out; obtain ⟨⟨⟨q0, q1, q2⟩, -⟩, -⟩ := D9.out)
      | (go_at_call 15; (with_reducible refine (sameL_any c _ _ _ S9.out.rd D9.out.rd).mono ?_); rintro e w10 ⟨rfl, hb10⟩; have B10 := Lib.hid (bgo B9.out hb10); clear hb10 S9 B9 D9 p0 p1 p2 q0 q1 q2)
      | (go_at_call 10; (first | (with_reducible refine (known_any _ (HT.out.below B10.out)).mono ?_) | (with_reducible refine (known_any _ (HT.out.below B8.out)).mono ?_)); rintro e wz ⟨rfl, hbz⟩; have BZ : Hid (Below W.heap.size W wz) := Lib.hid (by first | exact bgo B10.out hbz | exact bgo B8.out hbz); clear hbz))
    all_goals
      go_ret
      exact ⟨rfl, BZ.out⟩
end Go.Proofs.YtgnopnifdiipkaaDoor
