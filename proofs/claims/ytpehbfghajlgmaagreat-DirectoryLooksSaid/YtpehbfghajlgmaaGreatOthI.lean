/- A world in which one struct alone has turned; a slice of ints that does not lie in it. -/
import Derived.Test.YtpehbfghajlgmaaGreatIntRow
import Derived.Test.YtpehbfghajlgmaaGreatWords
import Derived.Deep.MidRow
namespace Go.Proofs.YtpehbfghajlgmaaGreat
open Go.RowKit
set_option linter.unusedVariables false
set_option linter.unusedSimpArgs false
/-- Only block g has turned. -/
def Oth (g : Nat) (w w' : World) : Prop := Below g w w' ∧ ∀ b, b ≠ g → w'.heap[b]? = w.heap[b]?
theorem Oth.two (g : Nat) (w : World) (a c : Value) : Oth g w ((w.setCell ⟨g, 0, none⟩ a).setCell ⟨g, 1, none⟩ c) :=
  ⟨((Below.refl g w).setCell (p := ⟨g, 0, none⟩) (Nat.le_refl _) _).setCell (p := ⟨g, 1, none⟩) (Nat.le_refl _) _, fun b hb => by
    rw [Below.heap_setCell _ ⟨g, 1, none⟩ _ _ hb, Below.heap_setCell _ ⟨g, 0, none⟩ _ _ hb]⟩
theorem OwnI.oth {B g : Nat} {L : List Int} {v : Value} {w w' : World} (h : OwnI B L v w) (ho : Oth g w w') (hg : g < B) : OwnI B L v w' := by
  obtain ⟨hy, h1, h2⟩ := h
  refine ⟨hy, h1, ?_⟩
  rcases h2 with h2 | ⟨b, cap, cur, rfl, hb', hg', r⟩
  · exact .inl h2
  · exact .inr ⟨b, cap, cur, rfl, hb', (ho.2 b (by omega)).trans hg', r⟩
theorem setCells_other (b : Nat) : ∀ (vs : List Value) (o : Nat) (w : World) (k : Nat), k ≠ b → (w.setCells b o vs).heap[k]? = w.heap[k]?
  | [], _, _, _, _ => rfl
  | v :: r, o, w, k, h => by
    rw [World.setCells, setCells_other b r (o + 1) _ k h]
    exact Below.heap_setCell w ⟨b, o, none⟩ v k h
theorem setCells_below (b : Nat) : ∀ (vs : List Value) (o : Nat) (w : World), Below b w (w.setCells b o vs)
  | [], _, _ => Below.refl _ _
  | v :: r, o, w => by
    rw [World.setCells]
    exact ((Below.refl b w).setCell (p := ⟨b, o, none⟩) (Nat.le_refl _) v).trans (setCells_below b r (o + 1) _)
/-- It can be read, and does not lie in block g. -/
def OffI (g : Nat) (L : List Int) (v : Value) (w : World) : Prop := RdI L v w ∧ ∀ a n cap, v = .slice (some a) n cap → 0 < n → a.block ≠ g
theorem OffI.below {g : Nat} {L : List Int} {v : Value} {w w' : World} (h : OffI g L v w) (hb : Below w.heap.size w w') : OffI g L v w' := ⟨h.1.below hb, h.2⟩
theorem OffI.drewN {g : Nat} {L : List Int} {v : Value} {w : World} (h : OffI g L v w) (j : Nat) : OffI g L v (w.drewN j) := h
theorem OffI.rd {g : Nat} {L : List Int} {v : Value} {w : World} (h : OffI g L v w) : RdI L v w := h.1
theorem OffI.oth {g : Nat} {L : List Int} {v : Value} {w w' : World} (h : OffI g L v w) (ho : Oth g w w') : OffI g L v w' := by
  refine ⟨?_, h.2⟩
  obtain ⟨⟨hy, a, cap, rfl, h1, h2, h3⟩, hn⟩ := h
  refine ⟨hy, a, cap, rfl, h1, h2, fun hp => ?_⟩
  obtain ⟨b, off, rfl, hlt, hc⟩ := h3 hp
  have hbg : b ≠ g := hn _ _ _ rfl hp
  exact ⟨b, off, rfl, Nat.lt_of_lt_of_le hlt ho.1.size, fun j hj => (World.cell?_of_block (w := w) (a := ⟨b, off + j, none⟩) (ho.2 b hbg)).trans (hc j hj)⟩
theorem OffI.new {L : List Int} {v : Value} {w : World} (h : RdI L v w) {g : Nat} (hg : w.heap.size ≤ g) : OffI g L v w := by
  refine ⟨h, ?_⟩
  obtain ⟨hy, a, cap, rfl, h1, h2, h3⟩ := h
  rintro a' n' cap' he hp
  simp only [Value.slice.injEq] at he
  obtain ⟨rfl, rfl, rfl⟩ := he
  obtain ⟨b, off, he, hlt, hc⟩ := h3 hp
  obtain rfl := Option.some.inj he
  show b ≠ g
  omega
theorem OffI.own {B g : Nat} {L : List Int} {v : Value} {w : World} (h : OwnI B L v w) (hg : g < B) : OffI g L v w := by
  refine ⟨h.rd, ?_⟩
  rintro a' n' cap' rfl hp
  rcases h.2.2 with ⟨he, _⟩ | ⟨b, cap, cur, he, hb, _⟩
  · cases he
  · simp only [Value.slice.injEq, Option.some.injEq] at he
    obtain ⟨rfl, rfl, rfl⟩ := he
    show b ≠ g
    omega
/-- A slice of ints that came in can be read. -/
theorem inRow_rdJ {w : World} {a : Option Addr} {len cap : Nat} {z : List Int} (h : InRow .i64 w a len cap z) : RdI (z.take len) (.slice a len cap) w := by
  obtain ⟨h1, h2, h3, h4, h5⟩ := h
  have hl : (z.take len).length = len := by simp; omega
  refine ⟨fun n hn => wf_bd (h4 n (List.mem_of_mem_take hn)), a, cap, by rw [hl], by rw [hl]; exact h1, h2, fun hp => ?_⟩
  rw [hl] at hp
  obtain ⟨b, off, rfl, hb, hc⟩ := h5 (by omega)
  refine ⟨b, off, rfl, hb, fun j hj => ?_⟩
  rw [hl] at hj
  rw [hc j (by omega)]
  simp [List.getD, List.getElem?_take, hj]
end Go.Proofs.YtpehbfghajlgmaaGreat
