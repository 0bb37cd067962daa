/- A slice of ints that stays where a struct beside it is written; what insertions one after the other make of a sketch. -/
import Derived.Test.YtlbbmnjhohfbkaaSkAt
import Derived.Test.YtlbbmnjhohfbkaaCmSto
import Derived.Test.YtlbbmnjhohfbkaaCmIns
import Derived.Test.YtlbbmnjhohfbkaaArgs
import Derived.Test.YtlbbmnjhohfbkaaBase
namespace Go.Proofs.Ytlbbmnjhohfbkaa
open Go.RowKit
set_option linter.unusedVariables false
set_option linter.unusedSimpArgs false
/-- It can be read, and does not lie in block g. -/
def OffI (g : Nat) (L : List Int) (v : Value) (w : World) : Prop := RdI L v w ∧ ∀ a n cap, v = .slice (some a) n cap → 0 < n → a.block ≠ g
theorem OffI.below {g : Nat} {L : List Int} {v : Value} {w w' : World} (h : OffI g L v w) (hb : Below w.heap.size w w') : OffI g L v w' := ⟨h.1.below hb, h.2⟩
theorem OffI.drewN {g : Nat} {L : List Int} {v : Value} {w : World} (h : OffI g L v w) (j : Nat) : OffI g L v (w.drewN j) := h
theorem OffI.rd {g : Nat} {L : List Int} {v : Value} {w : World} (h : OffI g L v w) : RdI L v w := h.1
theorem OffI.oth {g : Nat} {L : List Int} {v : Value} {w w' : World} (h : OffI g L v w) (ho : Oth g w w') : OffI g L v w' := by
  refine ⟨?_, h.2⟩
  obtain ⟨⟨hy, a, cap, rfl, h1, h2, h3⟩, hn⟩ := h
  refine ⟨hy, a, cap, rfl, h1, h2, fun hp => ?_⟩
  obtain ⟨b, off, rfl, hlt, hc⟩ := h3 hp
  have hbg : b ≠ g := hn _ _ _ rfl hp
  exact ⟨b, off, rfl, Nat.lt_of_lt_of_le hlt ho.1.size, fun j hj => (World.cell?_of_block (w := w) (a := ⟨b, off + j, none⟩) (ho.2 b hbg)).trans (hc j hj)⟩
theorem OffI.new {L : List Int} {v : Value} {w : World} (h : RdI L v w) {g : Nat} (hg : w.heap.size ≤ g) : OffI g L v w := by
  refine ⟨h, ?_⟩
  obtain ⟨hy, a, cap, rfl, h1, h2, h3⟩ := h
  rintro a' n' cap' he hp
  simp only [Value.slice.injEq] at he
  obtain ⟨rfl, rfl, rfl⟩ := he
  obtain ⟨b, off, he, hlt, hc⟩ := h3 hp
  obtain rfl := Option.some.inj he
  show b ≠ g
  omega
theorem OffI.own {B g : Nat} {L : List Int} {v : Value} {w : World} (h : OwnI B L v w) (hg : g < B) : OffI g L v w := by
  refine ⟨h.rd, ?_⟩
  rintro a' n' cap' rfl hp
  rcases h.2.2 with ⟨he, _⟩ | ⟨b, cap, cur, he, hb, _⟩
  · cases he
  · simp only [Value.slice.injEq, Option.some.injEq] at he
    obtain ⟨rfl, rfl, rfl⟩ := he
    show b ≠ g
    omega
theorem CSt.set5 {g : Nat} {D S x : Int} {v : Value} {s : Bool} {w : World} (h : CSt g D S x v s w) (D' S' x' : Int) (a : Option Addr) (n cap : Nat) (s' : Bool) :
    CSt g D' S' x' (.slice a n cap) s' (((((w.setCell ⟨g, 0, none⟩ (.int .i64 D')).setCell ⟨g, 1, none⟩ (.int .i64 S')).setCell ⟨g, 2, none⟩ (.int .u64 x')).setCell ⟨g, 3, none⟩ (.slice a n cap)).setCell ⟨g, 4, none⟩ (.bool s')) := by
  obtain ⟨⟨h0, h1, h2, h3, h4⟩, f0, f1, f2, f3, f4⟩ := h
  exact ⟨⟨by go_simp, by go_simp, by go_simp, by go_simp, by go_simp⟩, by go_simp, by go_simp, by go_simp, by go_simp, by go_simp⟩
theorem Oth.set5 (g : Nat) (w : World) (v0 v1 v2 v3 v4 : Value) :
    Oth g w (((((w.setCell ⟨g, 0, none⟩ v0).setCell ⟨g, 1, none⟩ v1).setCell ⟨g, 2, none⟩ v2).setCell ⟨g, 3, none⟩ v3).setCell ⟨g, 4, none⟩ v4) :=
  ⟨setCells_below g [v0, v1, v2, v3, v4] 0 w, fun k hk => setCells_other g [v0, v1, v2, v3, v4] 0 w k hk⟩
theorem CSt.drewM {g : Nat} {D S x : Int} {v : Value} {s : Bool} {w : World} (h : CSt g D S x v s w) (j : Nat) : CSt g D S x v s (w.drewN j) := h
theorem RdC.of {c : CM} {a : Option Addr} {n cap : Nat} {w : World} (h : RdI c.L (.slice a n cap) w) : RdC c (.agg #[.int .i64 c.D, .int .i64 c.S, .int .u64 c.x, .slice a n cap, .bool c.s]) w := ⟨a, n, cap, rfl, h⟩
/-- A slice of ints that came in can be read. -/
theorem inRow_rdJ {w : World} {a : Option Addr} {len cap : Nat} {z : List Int} (h : InRow .i64 w a len cap z) : RdI (z.take len) (.slice a len cap) w := by
  obtain ⟨h1, h2, h3, h4, h5⟩ := h
  have hl : (z.take len).length = len := by simp; omega
  refine ⟨fun n hn => wf_bd (h4 n (List.mem_of_mem_take hn)), a, cap, by rw [hl], by rw [hl]; exact h1, h2, fun hp => ?_⟩
  rw [hl] at hp
  obtain ⟨b, off, rfl, hb, hc⟩ := h5 (by omega)
  refine ⟨b, off, rfl, hb, fun j hj => ?_⟩
  rw [hl] at hj
  rw [hc j (by omega)]
  simp [List.getD, List.getElem?_take, hj]
/-- Sketches whose numbers are Go's. -/
theorem WfC.none : WfC CM.none := ⟨by decide, by decide, by decide, by decide⟩
theorem WfC.new {D S x : Int} (D0 : -9223372036854775808 ≤ D) (D1 : D ≤ 9223372036854775807) (S0 : -9223372036854775808 ≤ S) (S1 : S ≤ 9223372036854775807) (x0 : 0 ≤ x) (x1 : x ≤ 18446744073709551615) : WfC (newC D S x) := by
  unfold newC
  split
  · exact ⟨⟨D0, D1⟩, ⟨S0, S1⟩, x0, x1⟩
  · exact WfC.none
theorem WfC.ins {c : CM} (h : WfC c) (k : ByteArray) (n : Int) : WfC (cmIns c k n) := by
  unfold cmIns
  split
  · exact WfC.none
  · split
    · exact WfC.none
    · exact h
theorem WfC.mer {c : CM} (h : WfC c) (d : CM) : WfC (cmMer c d) := by
  unfold cmMer
  split
  · exact WfC.none
  · exact h
/-- The items of numbers, one after the other. -/
def mdUp (c : CM) (l : List Int) : CM := l.foldl (fun c n => cmIns c (keyS (n % 65536)) (wtS (n % 65536))) c
theorem mdUp_succ (c : CM) {l : List Int} {k : Nat} (h : k < l.length) : mdUp c (l.take (k + 1)) = cmIns (mdUp c (l.take k)) (keyS (l.getD k 0 % 65536)) (wtS (l.getD k 0 % 65536)) := by
  unfold mdUp
  rw [List.take_add_one, List.foldl_append]
  simp [List.getD, h]
theorem WfC.up {c : CM} (h : WfC c) (l : List Int) : WfC (mdUp c l) := by
  unfold mdUp
  induction l generalizing c with
  | nil => exact h
  | cons n l ih => exact ih (h.ins _ _)
end Go.Proofs.Ytlbbmnjhohfbkaa
