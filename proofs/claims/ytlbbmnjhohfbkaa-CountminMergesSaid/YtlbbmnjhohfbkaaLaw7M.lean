/- The walk of the law CountminMerges. -/
import Derived.Test.YtlbbmnjhohfbkaaCmPure
import Derived.Test.YtlbbmnjhohfbkaaMade7
import Derived.Test.YtlbbmnjhohfbkaaSpoil7
import Derived.Test.YtlbbmnjhohfbkaaCmKnown
import Derived.Test.YtlbbmnjhohfbkaaCmSame
import Derived.Test.YtlbbmnjhohfbkaaCmMer
import Derived.Test.YtlbbmnjhohfbkaaRCmMer
import Derived.Test.YtlbbmnjhohfbkaaSkAt
namespace Go.Proofs.Ytlbbmnjhohfbkaa
open Go.RowKit
set_option linter.unusedVariables false
set_option linter.unusedSimpArgs false
theorem wrap64_bd (n : Int) : -9223372036854775808 ≤ wrap64 n ∧ wrap64 n ≤ 9223372036854775807 := by
  unfold wrap64
  omega
set_option maxRecDepth 100000 in
set_option maxHeartbeats 4000000 in
theorem countminMerges_walk (a b s : Int) (al : Option Addr) (ln cap : Nat) (z : List Int) (bl : Option Addr) (lm cbp : Nat) (y : List Int) (n : Int) (W : World) (wa : (Lit.int .i64 a).wf = true) (wb : (Lit.int .i64 b).wf = true) (ws : (Lit.int .i64 s).wf = true) (w0 : InRow .i64 W al ln cap z) (w1 : InRow .i64 W bl lm cbp y) (wn : (Lit.int .i64 n).wf = true) :
    Calls Try.prog 5 #[.int .i64 a, .int .i64 b, .int .i64 s, .slice al ln cap, .slice bl lm cbp, .int .i64 n] W fun e w' => e = .returned (.bool true) ∧ Below W.heap.size W w' := by
  obtain ⟨a0, a1⟩ := wf_bd wa
  obtain ⟨b0, b1'⟩ := wf_bd wb
  obtain ⟨s0, s1⟩ := wf_bd ws
  obtain ⟨n0, n1⟩ := wf_bd wn
  have hx := wrap_bd s
  have h1 := made_any a b s (z.take ln) _ W s0 s1 (inRow_rdJ w0)
  have hm := Lib.hid (up_ok a b (IntKind.u64.wrap s) ((z.take ln).take 7) hx.1 hx.2)
  have HY := Lib.hid (inRow_rdJ w1)
  unfold madeC at h1
  generalize mdUp (newC (1 + a % 4) (1 + b % 8) (IntKind.u64.wrap s)) ((z.take ln).take 7) = cm at *
  have h2 := fun (v : Value) (w : World) (hv : RdC cm v w) => spoil_any cm v n w hm.out.1 hv hm.out.2.1 hm.out.2.2 n0 n1
  generalize y.take lm = L2 at *
  have h3 := fun (p q r : Int) (w : World) (hb : Below W.heap.size W w) (r0 : -9223372036854775808 ≤ r) (r1 : r ≤ 9223372036854775807) => made_any p q r L2 (.slice bl lm cbp) w r0 r1 (HY.out.below hb)
  have h4 := fun (p q r : Int) (v : Value) (w : World) (hv : RdC (madeC p q r L2) v w) => have hr := wrap_bd r; have hk := up_ok p q (IntKind.u64.wrap r) (L2.take 7) hr.1 hr.2; spoil_any (madeC p q r L2) v (n / 4194304) w hk.1 hv hk.2.1 hk.2.2 (by omega) (by omega)
  have m1 := mask4 (n / 1024)
  have m2 := mask4 (n / 16384)
  have m3 := mask4 (n / 262144)
  have e1 : 0 ≤ n / 1024 % 16 ∧ n / 1024 % 16 ≤ 15 := by omega
  have e2 : 0 ≤ n / 16384 % 16 ∧ n / 16384 % 16 ≤ 15 := by omega
  have e3 : 0 ≤ n / 262144 % 16 ∧ n / 262144 % 16 ≤ 15 := by omega
  generalize n / 1024 % 16 = p at *
  generalize n / 16384 % 16 = q at *
  generalize n / 262144 % 16 = r at *
  obtain ⟨e10, e11⟩ := e1
  obtain ⟨e20, e21⟩ := e2
  obtain ⟨e30, e31⟩ := e3
  clear wa wb ws wn w0 w1 hx
  go_enter Try.func5, Try.ntmps5
  go_wp2_with (first
    | (go_at_call 17; (with_reducible refine h1.mono ?_); rintro e w2 ⟨v2, rfl, hr2, hb2⟩; have O2 := Lib.hid hr2; have B2 := Lib.hid hb2; clear h1 hr2 hb2)
    | (go_at_call 16; (with_reducible refine (h2 _ _ O2.out).mono ?_); rintro e w3 ⟨c, v3, rfl, hwc, ⟨a3, n3, c3, rfl, ho3⟩, hb3⟩; have HWc := Lib.hid hwc; have S3 := Lib.hid (SkAt.new ho3 26); have B3 := Lib.hid (bal (bgo B2.out hb3) (.cells #[.int .i64 c.D, .int .i64 c.S, .int .u64 c.x, .slice a3 n3 c3, .bool c.s] 26)); clear h2 hwc ho3 hb3 B2 O2 hm)
    | (go_at_call 17; (with_reducible refine (h3 _ _ _ _ B3.out (wrap64_bd _).1 (wrap64_bd _).2).mono ?_); rintro e w4 ⟨v4, rfl, hr4, hb4⟩; have O4 := Lib.hid hr4; have S4 := Lib.hid (S3.out.below hb4); have B4 := Lib.hid (bgo B3.out hb4); clear h3 hr4 hb4 S3 B3)
    | (go_at_call 16; (with_reducible refine (h4 _ _ _ _ _ O4.out).mono ?_); rintro e w5 ⟨d, v5, rfl, hwd, ⟨a5, n5, c5, rfl, ho5⟩, hb5⟩; have HWd := Lib.hid hwd; have S5 := Lib.hid ((S4.out.below hb5).alloc (.cells #[.int .i64 d.D, .int .i64 d.S, .int .u64 d.x, .slice a5 n5 c5, .bool d.s] 26)); have D5 := Lib.hid (SkAt.new ho5 26); have B5 := Lib.hid (bal (bgo B4.out hb5) (.cells #[.int .i64 d.D, .int .i64 d.S, .int .u64 d.x, .slice a5 n5 c5, .bool d.s] 26)); clear h4 hwd ho5 hb5 S4 B4 O4; obtain ⟨⟨⟨p0, p1, p2, p3, p4⟩, -⟩, -⟩ := S5.out; obtain ⟨⟨⟨q0, q1, q2, q3, q4⟩, -⟩, -⟩ := D5.out)
    | (go_at_call 23; (with_reducible refine (cmer_any c d _ _ _ HWc.out HWd.out S5.out.rd D5.out.rd).mono ?_); rintro e w6 ⟨v6, rfl, ⟨a6, n6, c6, rfl, ho6⟩, hb6⟩; have h5 := (fun (u v : Value) (w : World) (hu : RdC c u w) (hv : RdC d v w) => rcmer_any c d u v w HWc.out HWd.out hu hv); generalize cmMer c d = m at *; generalize cmMerE c d = E at *; have S6 := Lib.hid ((S5.out.below hb6).alloc (.cells #[.int .i64 m.D, .int .i64 m.S, .int .u64 m.x, .slice a6 n6 c6, .bool m.s] 26)); have D6 := Lib.hid ((D5.out.below hb6).alloc (.cells #[.int .i64 m.D, .int .i64 m.S, .int .u64 m.x, .slice a6 n6 c6, .bool m.s] 26)); have M6 := Lib.hid (SkAt.new ho6.rd 26); have B6 := Lib.hid (bal (bgo B5.out hb6) (.cells #[.int .i64 m.D, .int .i64 m.S, .int .u64 m.x, .slice a6 n6 c6, .bool m.s] 26)); clear ho6 hb6 S5 D5 B5 p0 p1 p2 p3 p4 q0 q1 q2 q3 q4; obtain ⟨⟨⟨p0, p1, p2, p3, p4⟩, -⟩, -⟩ := S6.out; obtain ⟨⟨⟨q0, q1, q2, q3, q4⟩, -⟩, -⟩ := D6.out)
    | (go_at_call 24; (with_reducible refine (h5 _ _ _ S6.out.rd D6.out.rd).mono ?_); rintro e w7 ⟨v7, rfl, ⟨a7, n7, c7, rfl, ho7⟩, hb7⟩; have M7 := Lib.hid ((M6.out.below hb7).alloc (.cells #[.int .i64 m.D, .int .i64 m.S, .int .u64 m.x, .slice a7 n7 c7, .bool m.s] 26)); have N7 := Lib.hid (SkAt.new ho7.rd 26); have B7 := Lib.hid (bal (bgo B6.out hb7) (.cells #[.int .i64 m.D, .int .i64 m.S, .int .u64 m.x, .slice a7 n7 c7, .bool m.s] 26)); clear h5 ho7 hb7 S6 D6 M6 B6 p0 p1 p2 p3 p4 q0 q1 q2 q3 q4; obtain ⟨⟨⟨p0, p1, p2, p3, p4⟩, -⟩, -⟩ := M7.out; obtain ⟨⟨⟨q0, q1, q2, q3, q4⟩, -⟩, -⟩ := N7.out)
    | (go_at_call 15; (with_reducible refine (sameC_any m _ _ _ M7.out.rd N7.out.rd).mono ?_); rintro e w8 ⟨rfl, hb8⟩; have B8 := Lib.hid (bgo B7.out hb8); clear hb8 B7 M7 N7 p0 p1 p2 p3 p4 q0 q1 q2 q3 q4)
    | (go_at_call 10; (with_reducible refine (known_any _).mono ?_); rintro e wz ⟨rfl, hbz⟩; have BZ := Lib.hid (bgo B8.out hbz); clear hbz))
  go_ret
  exact ⟨rfl, BZ.out⟩
end Go.Proofs.Ytlbbmnjhohfbkaa
