/- The walks of the laws WireReads and WireFrames. -/
import Derived.Test.YtnlboecmcgjmjaaKnown3
import Derived.Test.YtnlboecmcgjmjaaArgs
import Derived.Test.YtnlboecmcgjmjaaNums
namespace Go.Proofs.Ytnlboecmcgjmjaa
open Go.RowKit
set_option linter.unusedVariables false
set_option linter.unusedSimpArgs false
/-- A slice of bytes that came in can be read. -/
theorem inRow_rd {W : World} {a : Option Addr} {n cap : Nat} {z : List Int} (h : InRow .u8 W a n cap z) : Rd (z.take n) (.slice a n cap) W := by
  obtain ⟨h1, h2, h3, h4, h5⟩ := h
  have hl : (z.take n).length = n := by simp; omega
  have hy : Byt (z.take n) := fun x hx => by
    have := h4 x (List.mem_of_mem_take hx)
    simpa [Lit.wf, IntKind.min, IntKind.max, IntKind.signed, IntKind.bits] using this
  refine ⟨hy, a, cap, by rw [hl], by omega, h2, fun hp => ?_⟩
  obtain ⟨b, off, rfl, hb, hc⟩ := h5 (by omega)
  refine ⟨b, off, rfl, hb, fun j hj => ?_⟩
  rw [hc j (by omega)]
  simp [List.getD, List.getElem?_take, show j < n by omega]
theorem wf_bd8 {n : Int} (h : (Lit.int .u8 n).wf = true) : 0 ≤ n ∧ n ≤ 255 := by
  simpa [Lit.wf, IntKind.min, IntKind.max, IntKind.signed, IntKind.bits] using h
set_option maxRecDepth 100000 in
set_option maxHeartbeats 2000000 in
theorem wireReads_walk (a : Option Addr) (n cap : Nat) (z : List Int) (W : World) (w0 : InRow .u8 W a n cap z) :
    Calls Try.prog 4 #[.slice a n cap] W fun e w' => e = .returned (.bool true) ∧ Below W.heap.size W w' := by
  have hr := inRow_rd w0
  have hn : n ≤ 9223372036854775807 := by have := w0.1; have := w0.2.1; unfold maxLen at this; omega
  have h1 := decUint_any _ _ W hr
  have h2 := rdecUint_any _ _ W hr
  have h3 := decWord_any _ _ W hr
  have h4 := rdecWord_any _ _ W hr
  have h5 := decText_any _ _ W hr
  have h6 := rdecText_any _ _ W hr
  clear hr w0
  generalize (decU (z.take n)).1 = u1 at *
  generalize (decU (z.take n)).2.1 = u2 at *
  generalize (decU (z.take n)).2.2 = u3 at *
  generalize (decW (z.take n)).1 = x1 at *
  generalize (decW (z.take n)).2.1 = x2 at *
  generalize (decW (z.take n)).2.2 = x3 at *
  generalize strOfNums (decT (z.take n)).1 = t1 at *
  generalize (decT (z.take n)).2.1 = t2 at *
  generalize (decT (z.take n)).2.2 = t3 at *
  by_cases hb : 1000 < n
  all_goals
    go_enter Try.func4, Try.ntmps4
    go_wp2_with (first
      | (go_at_call 17; refine h1.mono ?_; rintro e w' ⟨rfl, rfl⟩)
      | (go_at_call 18; refine h2.mono ?_; rintro e w' ⟨rfl, rfl⟩)
      | (go_at_call 19; refine h3.mono ?_; rintro e w' ⟨rfl, rfl⟩)
      | (go_at_call 20; refine h4.mono ?_; rintro e w' ⟨rfl, rfl⟩)
      | (go_at_call 21; refine h5.mono ?_; rintro e w' ⟨rfl, rfl⟩)
      | (go_at_call 22; refine h6.mono ?_; rintro e w' ⟨rfl, rfl⟩)
      | (go_at_call 10; refine (known_any _).mono ?_; rintro e w' ⟨rfl, hbl⟩))
    go_ret
    exact ⟨rfl, hbl⟩
end Go.Proofs.Ytnlboecmcgjmjaa
