/- The walk of the law WireFrames. -/
import Derived.Test.YtnlboecmcgjmjaaLaw3
namespace Go.Proofs.Ytnlboecmcgjmjaa
open Go.RowKit
set_option linter.unusedVariables false
set_option linter.unusedSimpArgs false
set_option maxRecDepth 100000 in
set_option maxHeartbeats 2000000 in
theorem wireFrames_walk (tag : Int) (a : Option Addr) (n cap : Nat) (z : List Int) (a2 : Option Addr) (n2 cap2 : Nat) (z2 : List Int) (W : World) (wt : (Lit.int .u8 tag).wf = true) (w0 : InRow .u8 W a n cap z) (w1 : InRow .u8 W a2 n2 cap2 z2) :
    Calls Try.prog 7 #[.int .u8 tag, .slice a n cap, .slice a2 n2 cap2] W fun e w' => e = .returned (.bool true) ∧ Below W.heap.size W w' := by
  have hr := inRow_rd w0
  have hr2 := inRow_rd w1
  have ht := wf_bd8 wt
  have hn : n ≤ 9223372036854775807 := by have := w0.1; have := w0.2.1; unfold maxLen at this; omega
  have hn2 : n2 ≤ 9223372036854775807 := by have := w1.1; have := w1.2.1; unfold maxLen at this; omega
  have h1 := fun (ww : World) (hb : Below W.heap.size W ww) => frame_any tag _ _ ww ht (hr.below hb)
  have h2 := fun (ww : World) (hb : Below W.heap.size W ww) => rframe_any tag _ _ ww ht (hr.below hb)
  have h3 := fun (ww : World) (hb : Below W.heap.size W ww) => unframe_any _ _ ww (hr2.below hb)
  have h4 := fun (ww : World) (hb : Below W.heap.size W ww) => runframe_any _ _ ww (hr2.below hb)
  have h5 := fun (ww : World) (hb : Below W.heap.size W ww) => sum_any _ _ ww (hr2.below hb)
  have h6 := fun (ww : World) (hb : Below W.heap.size W ww) => rsum_any _ _ ww (hr2.below hb)
  clear hr hr2 w0 w1 wt ht
  generalize frameE (z.take n) = fe at *
  generalize frameB tag (z.take n) = FB at *
  generalize (unfr (z2.take n2)).1 = u1 at *
  generalize (unfr (z2.take n2)).2.1 = UB at *
  generalize (unfr (z2.take n2)).2.2.1 = u2 at *
  generalize (unfr (z2.take n2)).2.2.2 = u3 at *
  generalize adlerN (z2.take n2) = A at *
  by_cases hb : 1000 < n ∨ 1000 < n2
  · by_cases hb1 : 1000 < n
    all_goals
      clear h1 h2 h3 h4 h5 h6
      go_enter Try.func7, Try.ntmps7
      go_wp2_with (go_at_call 10; refine (known_any _).mono ?_; rintro e w' ⟨rfl, hbl⟩)
      go_ret
      exact ⟨rfl, hbl⟩
  · have hb1 : n ≤ 1000 := by omega
    have hb2 : n2 ≤ 1000 := by omega
    clear hb hn hn2
    go_enter Try.func7, Try.ntmps7
    go_wp2_with (first
      | (go_at_call 23; refine (h1 _ (Below.refl _ _)).mono ?_; rintro e x1 ⟨v1, rfl, o1, b1⟩)
      | (go_at_call 24; refine (h2 _ b1).mono ?_; rintro e x2 ⟨v2, rfl, o2, b2⟩; have B2 := b1.trans (b2.mono b1.size))
      | (go_at_call 25; refine (h3 _ B2).mono ?_; rintro e x3 ⟨v3, rfl, o3, b3⟩; have B3 := B2.trans (b3.mono B2.size))
      | (go_at_call 26; refine (h4 _ B3).mono ?_; rintro e x4 ⟨v4, rfl, o4, b4⟩; have B4 := B3.trans (b4.mono B3.size); have c1 := (((o1.below b2).below b3).below b4).rd.conv; have c2 := ((o2.below b3).below b4).rd.conv; have c3 := (o3.below b4).rd.conv; have c4 := o4.rd.conv; clear o1 o2 o3 o4 h1 h2 h3 h4)
      | (go_at_call 27; refine (h5 _ B4).mono ?_; rintro e w' ⟨rfl, rfl⟩)
      | (go_at_call 28; refine (h6 _ B4).mono ?_; rintro e w' ⟨rfl, rfl⟩)
      | (go_at_call 10; refine (known_any _).mono ?_; rintro e w' ⟨rfl, hbl⟩))
    go_ret
    exact ⟨rfl, B4.trans (hbl.mono B4.size)⟩
end Go.Proofs.Ytnlboecmcgjmjaa
