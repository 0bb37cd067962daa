/- The walk of the law LoglogMerges. -/
import Derived.Test.YtgnopnifdiipkaaDoorLPMer
import Derived.Test.YtgnopnifdiipkaaDoorLlPure
import Derived.Test.YtgnopnifdiipkaaDoorMade8
import Derived.Test.YtgnopnifdiipkaaDoorSpoil8
import Derived.Test.YtgnopnifdiipkaaDoorKnown8
import Derived.Test.YtgnopnifdiipkaaDoorSameL
import Derived.Test.YtgnopnifdiipkaaDoorSkL
namespace Go.Proofs.YtgnopnifdiipkaaDoor
open Go.RowKit
set_option linter.unusedVariables false
set_option linter.unusedSimpArgs false
theorem wrap64_bd (n : Int) : -9223372036854775808 ≤ wrap64 n ∧ wrap64 n ≤ 9223372036854775807 := by
  unfold wrap64
  omega
set_option maxRecDepth 100000 in
set_option maxHeartbeats 4000000 in
theorem loglogMerges_walk (a s : Int) (al : Option Addr) (ln cap : Nat) (z : List Int) (bl : Option Addr) (lm cbp : Nat) (y : List Int) (n : Int) (W : World) (wa : (Lit.int .i64 a).wf = true) (ws : (Lit.int .i64 s).wf = true) (w0 : InRow .i64 W al ln cap z) (w1 : InRow .i64 W bl lm cbp y) (wn : (Lit.int .i64 n).wf = true) (ht : TabF W) :
    Calls Tryd.prog 5 #[.int .i64 a, .int .i64 s, .slice al ln cap, .slice bl lm cbp, .int .i64 n] W fun e w' => e = .returned (.bool true) ∧ Below W.heap.size W w' := by
  have HT := Lib.hid ht
  clear ht
  obtain ⟨a0, a1⟩ := wf_bd wa
  obtain ⟨s0, s1⟩ := wf_bd ws
  obtain ⟨n0, n1⟩ := wf_bd wn
  have hx := wrap_bd s
  have h1 := made_any a s (z.take ln) _ W s0 s1 (inRow_rdJ w0)
  have hm := Lib.hid (upL_ok a (IntKind.u64.wrap s) ((z.take ln).take 9) hx.1 hx.2)
  have HY := Lib.hid (inRow_rdJ w1)
  unfold madeL at h1
  generalize ldUp (newL (2 + a % 4) (IntKind.u64.wrap s)) ((z.take ln).take 9) = cm at *
  have h2 := fun (v : Value) (w : World) (hv : RdL cm v w) => spoil_any cm v n w hm.out.1 hv hm.out.2.1 hm.out.2.2.1 hm.out.2.2.2.1 hm.out.2.2.2.2 n0 n1
  generalize y.take lm = L2 at *
  have h3 := fun (p r : Int) (w : World) (hb : Below W.heap.size W w) (r0 : -9223372036854775808 ≤ r) (r1 : r ≤ 9223372036854775807) => made_any p r L2 (.slice bl lm cbp) w r0 r1 (HY.out.below hb)
  have h4 := fun (p r : Int) (v : Value) (w : World) (hv : RdL (madeL p r L2) v w) => have hr := wrap_bd r; have hk := upL_ok p (IntKind.u64.wrap r) (L2.take 9) hr.1 hr.2; spoil_any (madeL p r L2) v (n / 262144) w hk.1 hv hk.2.1 hk.2.2.1 hk.2.2.2.1 hk.2.2.2.2 (by omega) (by omega)
  have m1 := mask4 (n / 1024)
  have m2 := mask4 (n / 16384)
  have e1 : 0 ≤ n / 1024 % 16 ∧ n / 1024 % 16 ≤ 15 := by omega
  have e2 : 0 ≤ n / 16384 % 16 ∧ n / 16384 % 16 ≤ 15 := by omega
  generalize n / 1024 % 16 = p at *
  generalize n / 16384 % 16 = q at *
  obtain ⟨e10, e11⟩ := e1
  obtain ⟨e20, e21⟩ := e2
  clear wa ws wn w0 w1 hx
  go_enter Tryd.func5, Tryd.ntmps5
  go_wp2_with (first
    | (go_at_call 17; (with_reducible refine h1.mono ?_); rintro e w2 ⟨v2, rfl, hr2, hb2⟩; have O2 := Lib.hid hr2; have B2 := Lib.hid hb2; clear h1 hr2 hb2)
    | (go_at_call 16; (with_reducible refine (h2 _ _ O2.out).mono ?_); rintro e w3 ⟨c, v3, rfl, hwc, ⟨a3, n3, c3, rfl, ho3⟩, hb3⟩; have HWc := Lib.hid hwc; have S3 := Lib.hid (SkL.new ho3 26); have B3 := Lib.hid (bal (bgo B2.out hb3) (.cells #[.int .i64 c.P, .int .u64 c.x, .slice a3 n3 c3] 26)); clear h2 hwc ho3 hb3 B2 O2 hm)
    | (go_at_call 17; (with_reducible refine (h3 _ _ _ B3.out (wrap64_bd _).1 (wrap64_bd _).2).mono ?_); rintro e w4 ⟨v4, rfl, hr4, hb4⟩; have O4 := Lib.hid hr4; have S4 := Lib.hid (S3.out.below hb4); have B4 := Lib.hid (bgo B3.out hb4); clear h3 hr4 hb4 S3 B3)
    | (go_at_call 16; (with_reducible refine (h4 _ _ _ _ O4.out).mono ?_); rintro e w5 ⟨d, v5, rfl, hwd, ⟨a5, n5, c5, rfl, ho5⟩, hb5⟩; have HWd := Lib.hid hwd; have S5 := Lib.hid ((S4.out.below hb5).alloc (.cells #[.int .i64 d.P, .int .u64 d.x, .slice a5 n5 c5] 26)); have D5 := Lib.hid (SkL.new ho5 26); have B5 := Lib.hid (bal (bgo B4.out hb5) (.cells #[.int .i64 d.P, .int .u64 d.x, .slice a5 n5 c5] 26)); clear h4 hwd ho5 hb5 S4 B4 O4; obtain ⟨⟨⟨p0, p1, p2⟩, -⟩, -⟩ := S5.out; obtain ⟨⟨⟨q0, q1, q2⟩, -⟩, -⟩ := D5.out)
    | (go_at_call 23; (with_reducible refine (lmer_any c d _ _ _ S5.out.rd D5.out.rd).mono ?_); rintro e w6 ⟨v6, rfl, ⟨a6, n6, c6, rfl, ho6⟩, hb6⟩; have h5 := (fun (u v : Value) (w : World) (hu : RdL c u w) (hv : RdL d v w) => rlmer_any c d u v w hu hv); generalize llMer c d = m at *; generalize llMerE c d = E at *; have S6 := Lib.hid ((S5.out.below hb6).alloc (.cells #[.int .i64 m.P, .int .u64 m.x, .slice a6 n6 c6] 26)); have D6 := Lib.hid ((D5.out.below hb6).alloc (.cells #[.int .i64 m.P, .int .u64 m.x, .slice a6 n6 c6] 26)); have M6 := Lib.hid (SkL.new ho6.rd 26); have B6 := Lib.hid (bal (bgo B5.out hb6) (.cells #[.int .i64 m.P, .int .u64 m.x, .slice a6 n6 c6] 26)); clear ho6 hb6 S5 D5 B5 p0 p1 p2 q0 q1 q2; obtain ⟨⟨⟨p0, p1, p2⟩, -⟩, -⟩ := S6.out; obtain ⟨⟨⟨q0, q1, q2⟩, -⟩, -⟩ := D6.out)
    | (go_at_call 24; (with_reducible refine (h5 _ _ _ S6.out.rd D6.out.rd).mono ?_); rintro e w7 ⟨v7, rfl, ⟨a7, n7, c7, rfl, ho7⟩, hb7⟩; have M7 := Lib.hid ((M6.out.below hb7).alloc (.cells #[.int .i64 m.P, .int .u64 m.x, .slice a7 n7 c7] 26)); have N7 := Lib.hid (SkL.new ho7.rd 26); have B7 := Lib.hid (bal (bgo B6.out hb7) (.cells #[.int .i64 m.P, .int .u64 m.x, .slice a7 n7 c7] 26)); clear h5 ho7 hb7 S6 D6 M6 B6 p0 p1 p2 q0 q1 q2; obtain ⟨⟨⟨p0, p1, p2⟩, -⟩, -⟩ := M7.out; obtain ⟨⟨⟨q0, q1, q2⟩, -⟩, -⟩ := N7.out)
    | (go_at_call 15; (with_reducible refine (sameL_any m _ _ _ M7.out.rd N7.out.rd).mono ?_); rintro e w8 ⟨rfl, hb8⟩; have B8 := Lib.hid (bgo B7.out hb8); clear hb8 B7 M7 N7 p0 p1 p2 q0 q1 q2)
    | (go_at_call 10; (with_reducible refine (known_any _ (HT.out.below B8.out)).mono ?_); rintro e wz ⟨rfl, hbz⟩; have BZ := Lib.hid (bgo B8.out hbz); clear hbz))
  go_ret
  exact ⟨rfl, BZ.out⟩
end Go.Proofs.YtgnopnifdiipkaaDoor
