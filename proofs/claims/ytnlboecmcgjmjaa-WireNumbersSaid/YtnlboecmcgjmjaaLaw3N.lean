/- The walk of the law WireNumbers. -/
import Derived.Test.YtnlboecmcgjmjaaLaw3
import Derived.Deep.RegionHeld3
namespace Go.Proofs.Ytnlboecmcgjmjaa
open Go.RowKit
set_option linter.unusedVariables false
set_option linter.unusedSimpArgs false
set_option maxRecDepth 100000 in
set_option maxHeartbeats 2000000 in
theorem wireNumbers_walk (n x : Int) (s : ByteArray) (W : World) (w0 : (Lit.int .i64 n).wf = true) (w1 : (Lit.int .u64 x).wf = true) (w2 : s.size ≤ maxLen) :
    Calls Try.prog 3 #[.int .i64 n, .int .u64 x, .string s] W fun e w' => e = .returned (.bool true) ∧ Below W.heap.size W w' := by
  have hn := wf_bd w0
  have hx := wf_bdu w1
  obtain ⟨X, rfl⟩ : ∃ X : Nat, x = (X : Int) := ⟨x.toNat, by omega⟩
  have h1 := fun ww => encUint_any n ww hn.1 hn.2
  have h2 := fun ww => rencUint_any n ww hn.1 hn.2
  have h3 := fun ww => encText_any s ww w2
  have h4 := fun ww => rencText_any s ww w2
  have h5 := fun ww => encWord_any X ww (by omega)
  have h6 := fun ww => rword_any X ww (by omega)
  unfold maxLen at w2
  clear hn hx w0 w1
  generalize encE n = u1 at *
  generalize encB n = U at *
  generalize textE (byt s) = t1 at *
  generalize textB (byt s) = T at *
  generalize be X 8 = R at *
  by_cases hb : 1000 < s.size
  · clear h1 h2 h3 h4 h5 h6
    go_enter Try.func3, Try.ntmps3
    go_wp2_with (go_at_call 10; refine (known_any _).mono ?_; rintro e w' ⟨rfl, hbl⟩)
    go_ret
    exact ⟨rfl, hbl⟩
  · go_enter Try.func3, Try.ntmps3
    go_wp2_with (first
      | (go_at_call 11; refine (h1 _).mono ?_; rintro e x1 ⟨v1, rfl, o1, b1⟩)
      | (go_at_call 12; refine (h2 _).mono ?_; rintro e x2 ⟨v2, rfl, o2, b2⟩; have B2 := b1.trans (b2.mono b1.size))
      | (go_at_call 13; refine (h3 _).mono ?_; rintro e x3 ⟨v3, rfl, o3, b3⟩; have B3 := B2.trans (b3.mono B2.size))
      | (go_at_call 14; refine (h4 _).mono ?_; rintro e x4 ⟨v4, rfl, o4, b4⟩; have B4 := B3.trans (b4.mono B3.size); have p1 := ((o1.below b2).below b3).below b4; have p2 := (o2.below b3).below b4; have p3 := o3.below b4; have c1 : ∀ w', Below x4.heap.size x4 w' → (convert 24 9 v1).run Try.prog w' = .ok (.string (strOfNums U)) w' := fun w' h => (p1.below h).rd.conv; have c2 : ∀ w', Below x4.heap.size x4 w' → (convert 24 9 v2).run Try.prog w' = .ok (.string (strOfNums U)) w' := fun w' h => (p2.below h).rd.conv; have c3 : ∀ w', Below x4.heap.size x4 w' → (convert 24 9 v3).run Try.prog w' = .ok (.string (strOfNums T)) w' := fun w' h => (p3.below h).rd.conv; have c4 : ∀ w', Below x4.heap.size x4 w' → (convert 24 9 v4).run Try.prog w' = .ok (.string (strOfNums T)) w' := fun w' h => (o4.below h).rd.conv; have HB4 := Lib.hid B4; clear h1 h2 h3 h4 o1 o2 o3 o4 b1 b2 b3 b4 B2 B3 B4 p1 p2 p3))
    go_region_held (fun w' => Below x4.heap.size x4 w') (first | assumption | exact (Below.refl _ _).drew) (first
      | (go_at_call 15; refine (h5 _).mono ?_; rintro e x5 ⟨v5, rfl, o5, b5⟩; have S5 : Below x4.heap.size x4 x5 := (Below.refl _ x4).drew.trans b5; have d5 := o5.rd.conv)
      | (go_at_call 16; refine (h6 _).mono ?_; rintro e x6 ⟨v6, rfl, o6, b6⟩; have S6 : Below x4.heap.size x4 x6 := S5.trans (b6.mono S5.size); have d6 := o6.rd.conv; have d5' := (o5.below b6).rd.conv)
      | (go_at_call 10; refine (known_any _).mono ?_; rintro e x7 ⟨rfl, hbl⟩; have S7 : Below x4.heap.size x4 x7 := S6.trans (hbl.mono S6.size)))
    all_goals go_wp2
    all_goals go_ret
    all_goals exact ⟨rfl, HB4.out.trans (S7.mono HB4.out.size)⟩
end Go.Proofs.Ytnlboecmcgjmjaa
