/- The walk of the law LoglogNew. -/
import Derived.Test.YtgnopnifdiipkaaDoorLPVal
import Derived.Test.YtgnopnifdiipkaaDoorLPPos
import Derived.Test.YtgnopnifdiipkaaDoorSkL
import Derived.Test.YtgnopnifdiipkaaDoorKnown8
import Derived.Test.YtgnopnifdiipkaaDoorSameL
import Derived.Test.YtgnopnifdiipkaaDoorBase
namespace Go.Proofs.YtgnopnifdiipkaaDoor
open Go.RowKit
set_option linter.unusedVariables false
set_option linter.unusedSimpArgs false
set_option maxRecDepth 100000 in
set_option maxHeartbeats 4000000 in
theorem loglogNew_walk (P x : Int) (k : ByteArray) (W : World) (wD : (Lit.int .i64 P).wf = true) (wx : (Lit.int .u64 x).wf = true) (wk : k.size ≤ maxLen) (ht : TabF W) :
    Calls Tryd.prog 3 #[.int .i64 P, .int .u64 x, .string k] W fun e w' => e = .returned (.bool true) ∧ Below W.heap.size W w' := by
  have HT := Lib.hid ht
  clear ht
  have h9 := fun (w : World) (hb : Below W.heap.size W w) => known_any w (HT.out.below hb)
  have hkl : (k.size : Int) ≤ 9223372036854775807 := by unfold maxLen at wk; omega
  by_cases hl : (100 : Int) < (k.size : Int)
  · clear wD wx wk
    go_enter Tryd.func3, Tryd.ntmps3
    go_wp2_with (go_at_call 10; refine (h9 _ (Below.refl _ _)).mono ?_; rintro e w2 ⟨rfl, hb2⟩)
    go_ret
    exact ⟨rfl, hb2⟩
  · have hl2 : (k.size : Int) ≤ 100 := by omega
    obtain ⟨D0, D1⟩ := wf_bd wD
    obtain ⟨x0, x1⟩ := wf_bdu wx
    have m1 := mask4 P
    have e0 : 0 ≤ P % 16 ∧ P % 16 ≤ 15 := by omega
    have h1 := fun w => lnew_any P x w
    have h2 := fun w => rlnew_any P x w
    have h3 := fun w => lnew_any (P % 16 - 2) x w
    have h4 := fun w => rlnew_any (P % 16 - 2) x w
    have h5 := fun w => lpos_any (P % 16 - 2) x k w x0 x1 wk
    have h6 := fun w => rpos_any (P % 16 - 2) x k w x0 x1 wk
    generalize P % 16 = p at *
    generalize newL P x = c at *
    generalize newLE P = E at *
    generalize newL (p - 2) x = d at *
    generalize newLE (p - 2) = F at *
    generalize posR (p - 2) x k = V at *
    generalize posK (p - 2) x k = V2 at *
    generalize posE (p - 2) k = G at *
    obtain ⟨e00, e01⟩ := e0
    clear wD wx wk hl
    go_enter Tryd.func3, Tryd.ntmps3
    go_wp2_with (first
      | (go_at_call 11; (with_reducible refine (h1 _).mono ?_); rintro e w2 ⟨v2, rfl, ⟨a2, n2, c2, rfl, ho2⟩, hb2⟩; have B2 := Lib.hid hb2; have S2 := Lib.hid (SkL.new ho2.rd 26); clear h1 ho2 hb2)
      | (go_at_call 12; (with_reducible refine (h2 _).mono ?_); rintro e w3 ⟨v3, rfl, ⟨a3, n3, c3, rfl, ho3⟩, hb3⟩; have B3 := Lib.hid (bgo (bal B2.out _) hb3); have S23 := Lib.hid ((S2.out.below hb3).alloc (.cells #[.int .i64 c.P, .int .u64 c.x, .slice a3 n3 c3] 26)); have S3 := Lib.hid (SkL.new ho3.rd 26); clear h2 ho3 hb3 B2 S2)
      | (go_at_call 11; (with_reducible refine (h3 _).mono ?_); rintro e w4 ⟨v4, rfl, ⟨a4, n4, c4, rfl, ho4⟩, hb4⟩; have B4 := Lib.hid (bgo (bal B3.out _) hb4); have S24 := Lib.hid ((S23.out.below hb4).alloc (.cells #[.int .i64 d.P, .int .u64 d.x, .slice a4 n4 c4] 26)); have S34 := Lib.hid ((S3.out.below hb4).alloc (.cells #[.int .i64 d.P, .int .u64 d.x, .slice a4 n4 c4] 26)); have S4 := Lib.hid (SkL.new ho4.rd 26); clear h3 ho4 hb4 B3 S23 S3)
      | (go_at_call 12; (with_reducible refine (h4 _).mono ?_); rintro e w5 ⟨v5, rfl, ⟨a5, n5, c5, rfl, ho5⟩, hb5⟩; have B5 := Lib.hid (bgo (bal B4.out _) hb5); have S25 := Lib.hid ((S24.out.below hb5).alloc (.cells #[.int .i64 d.P, .int .u64 d.x, .slice a5 n5 c5] 26)); have S35 := Lib.hid ((S34.out.below hb5).alloc (.cells #[.int .i64 d.P, .int .u64 d.x, .slice a5 n5 c5] 26)); have S45 := Lib.hid ((S4.out.below hb5).alloc (.cells #[.int .i64 d.P, .int .u64 d.x, .slice a5 n5 c5] 26)); have S5 := Lib.hid (SkL.new ho5.rd 26); clear h4 ho5 hb5 B4 S24 S34 S4)
      | (go_at_call 13; (with_reducible refine (h5 _).mono ?_); rintro e w6 ⟨rfl, hb6⟩; have B6 := Lib.hid (bgo (bal B5.out _) hb6); have S26 := Lib.hid (S25.out.below hb6); have S36 := Lib.hid (S35.out.below hb6); have S46 := Lib.hid (S45.out.below hb6); have S56 := Lib.hid (S5.out.below hb6); clear h5 hb6 B5 S25 S35 S45 S5)
      | (go_at_call 14; (with_reducible refine (h6 _).mono ?_); rintro e w7 ⟨rfl, hb7⟩; have B7 := Lib.hid (bgo B6.out hb7); have S27 := Lib.hid (S26.out.below hb7); have S37 := Lib.hid (S36.out.below hb7); have S47 := Lib.hid (S46.out.below hb7); have S57 := Lib.hid (S56.out.below hb7); clear h6 hb7 B6 S26 S36 S46 S56; obtain ⟨⟨⟨p0, p1, p2⟩, _⟩, _⟩ := S27.out; obtain ⟨⟨⟨q0, q1, q2⟩, _⟩, _⟩ := S37.out)
      | (go_at_call 15; (with_reducible refine (sameL_any c _ _ _ S27.out.rd S37.out.rd).mono ?_); rintro e w8 ⟨rfl, hb8⟩; have B8 := Lib.hid (bgo B7.out hb8); have S48 := Lib.hid (S47.out.below hb8); have S58 := Lib.hid (S57.out.below hb8); clear hb8 B7 S27 S37 S47 S57 p0 p1 p2 q0 q1 q2; obtain ⟨⟨⟨p0, p1, p2⟩, _⟩, _⟩ := S48.out; obtain ⟨⟨⟨q0, q1, q2⟩, _⟩, _⟩ := S58.out)
      | (go_at_call 15; (with_reducible refine (sameL_any d _ _ _ S48.out.rd S58.out.rd).mono ?_); rintro e w9 ⟨rfl, hb9⟩; have B9 := Lib.hid (bgo B8.out hb9); clear hb9 B8 S48 S58 p0 p1 p2 q0 q1 q2)
      | (go_at_call 10; (with_reducible refine (h9 _ B9.out).mono ?_); rintro e wz ⟨rfl, hbz⟩; have BZ := Lib.hid (bgo B9.out hbz)))
    go_ret
    exact ⟨rfl, BZ.out⟩
end Go.Proofs.YtgnopnifdiipkaaDoor
