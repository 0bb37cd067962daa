/- append onto bytes of the call's own as one step of a region that draws its order; small words on owned bytes. -/
import Derived.Test.YtmnahnmkffndlaaWords
import Derived.Deep.RegionLaw
import Derived.Deep.QuietTactic
import Derived.BigQuiet
namespace Go.Proofs.Ytmnahnmkffndlaa
open Go.RowKit
set_option linter.unusedVariables false
set_option linter.unusedSimpArgs false
theorem step_app {w : World} {ops : Array Oper} {o : Oper} {a : Act} {K : Act → World → Prop} {Q : Exit → Act → World → Prop} {E : Prop} (hgd : o.guard = none) (s x : Operand) (tx : TypeId)
    (ho : o.op = .call { callee := .builtin .append, args := #[s, x], argTypes := #[31, tx] }) (B : Nat) (L M : List Int) (v u : Value) (hs : a.eval s = v) (hx : a.eval x = u)
    (hown : Own B L v w) (hsrc : From M tx u w) (hB : B ≤ w.heap.size) (hn : L.length + M.length ≤ 140737488355328)
    (h : ∀ v' w', Own B (L ++ M) v' w' → Below B w w' → K (a.put o.dst v') w') : if Region.wanted o (yielded ops a.tmps) = true then Oper.wp Try.prog o a w K Q else E := by
  have hw : Region.wanted o (yielded ops a.tmps) = true := by simp [Region.wanted, hgd]
  rw [if_pos hw]
  obtain ⟨i0, hi, hz0, hz1, hz2⟩ := info_parts info_u8
  obtain ⟨v', w', hr, h1, h2⟩ := run_own_src (P := Try.prog) w B 31 tx o.type 5 i0 (.int .u8 0) 1 1 Try.underlying31 hi hz0 hz1 hz2 rfl (by decide) v L.length (cells8 L) hown.2 u M.length (cells8 M) hsrc.2 (by unfold maxLen; omega) (by omega) hB
  unfold Oper.wp execOp
  simp only [ho, resolve, invoke, builtin, Sem.run_bind, Sem.run_pure, Result.andThen_ok, List.map_toArray, List.map_cons, List.map_nil, hs, hx, hr]
  refine h v' w' ⟨hown.1.app hsrc.1, ?_⟩ ((Below.refl _ _).grown h2 hB (fun k hk => (World.ownsRow.lt hown.2 k hk).1))
  rw [List.length_append, cells8_app]
  exact h1
theorem quiet_left {P : Program} {f : FuncId} {args : Array Value} {w : World} {n : Nat} {v : Value}
    (h : Calls P f args (w.drewN n) fun e w' => e = .returned v ∧ w.drewN n = w') : Calls P f args (w.drewN n) fun e w'' => e = .returned v ∧ ∃ m, w'' = w.drewN m :=
  h.mono fun _ _ ⟨he, hm⟩ => ⟨he, n, hm.symm⟩
theorem below_drewN {B : Nat} {a w : World} (h : Below B a w) (n : Nat) : Below B a (w.drewN n) := ⟨h.os, h.tape, h.output, h.size, h.block⟩
theorem below_drew {B : Nat} {a w : World} (h : Below B a w) : Below B a w.drew := ⟨h.os, h.tape, h.output, h.size, h.block⟩
theorem Own.drewN {B : Nat} {L : List Int} {v : Value} {w : World} (h : Own B L v w) (n : Nat) : Own B L v (w.drewN n) := h
theorem Own.drew {B : Nat} {L : List Int} {v : Value} {w : World} (h : Own B L v w) : Own B L v w.drew := h
theorem Rd.drew {L : List Int} {v : Value} {w : World} (h : Rd L v w) : Rd L v w.drew := h
theorem Own.two {c d : Int} (hc : 0 ≤ c ∧ c ≤ 255) (hd : 0 ≤ d ∧ d ≤ 255) (w : World) : Own w.heap.size [c, d] (.slice (some ⟨w.heap.size, 0, none⟩) 2 2) (w.alloc (.cells #[.int .u8 c, .int .u8 d] 5)) :=
  ⟨Byt.cons hc (Byt.cons hd Byt.nil), rfl, .inr ⟨w.heap.size, 2, #[.int .u8 c, .int .u8 d], rfl, Nat.le_refl _, Go.heap_alloc_new w _, Nat.le_refl _, by decide, rfl, rfl⟩⟩
end Go.Proofs.Ytmnahnmkffndlaa
