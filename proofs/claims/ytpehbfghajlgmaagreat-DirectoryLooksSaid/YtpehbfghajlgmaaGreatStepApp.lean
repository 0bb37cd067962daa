/- append onto bytes of the call's own as one step of a region that draws its order; small words on owned bytes. -/
import Derived.Test.YtpehbfghajlgmaaGreatWords
import Derived.Deep.RegionLaw
import Derived.Deep.QuietTactic
import Derived.BigQuiet
namespace Go.Proofs.YtpehbfghajlgmaaGreat
open Go.RowKit
set_option linter.unusedVariables false
set_option linter.unusedSimpArgs false
theorem quiet_left {P : Program} {f : FuncId} {args : Array Value} {w : World} {n : Nat} {v : Value}
    (h : Calls P f args (w.drewN n) fun e w' => e = .returned v ∧ w.drewN n = w') : Calls P f args (w.drewN n) fun e w'' => e = .returned v ∧ ∃ m, w'' = w.drewN m :=
  h.mono fun _ _ ⟨he, hm⟩ => ⟨he, n, hm.symm⟩
theorem below_drewN {B : Nat} {a w : World} (h : Below B a w) (n : Nat) : Below B a (w.drewN n) := ⟨h.os, h.tape, h.output, h.size, h.block⟩
theorem below_drew {B : Nat} {a w : World} (h : Below B a w) : Below B a w.drew := ⟨h.os, h.tape, h.output, h.size, h.block⟩
theorem Own.drewN {B : Nat} {L : List Int} {v : Value} {w : World} (h : Own B L v w) (n : Nat) : Own B L v (w.drewN n) := h
theorem Own.drew {B : Nat} {L : List Int} {v : Value} {w : World} (h : Own B L v w) : Own B L v w.drew := h
theorem Rd.drew {L : List Int} {v : Value} {w : World} (h : Rd L v w) : Rd L v w.drew := h
theorem Own.two {c d : Int} (hc : 0 ≤ c ∧ c ≤ 255) (hd : 0 ≤ d ∧ d ≤ 255) (w : World) : Own w.heap.size [c, d] (.slice (some ⟨w.heap.size, 0, none⟩) 2 2) (w.alloc (.cells #[.int .u8 c, .int .u8 d] 5)) :=
  ⟨Byt.cons hc (Byt.cons hd Byt.nil), rfl, .inr ⟨w.heap.size, 2, #[.int .u8 c, .int .u8 d], rfl, Nat.le_refl _, Go.heap_alloc_new w _, Nat.le_refl _, by decide, rfl, rfl⟩⟩
end Go.Proofs.YtpehbfghajlgmaaGreat
