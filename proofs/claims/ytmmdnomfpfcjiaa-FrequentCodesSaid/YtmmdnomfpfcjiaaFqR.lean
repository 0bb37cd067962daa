/- The memory of the reference's insertion and merge. -/
import Derived.Test.YtmmdnomfpfcjiaaFqIns
import Derived.Test.YtmmdnomfpfcjiaaFqE
import Derived.Deep.RegionLaw
namespace Go.Proofs.Ytmmdnomfpfcjiaa
open Go.RowKit
set_option linter.unusedVariables false
set_option linter.unusedSimpArgs false
/-- The struct of a summary as a row of its own type. -/
def TQ (g : Nat) (S T K : Int) (v : Value) (s : Bool) (w : World) : Prop := w.ownsRow 0 25 5 (.slice (some ⟨g, 0, none⟩) 1 1) 1 [.int .i64 S, .int .i64 T, .int .i64 K, v, .bool s]
section
variable {g : Nat} {S T K : Int} {v : Value} {s : Bool} {w w' : World}
theorem TQ.keep (h : TQ g S T K v s w) (hb : w'.heap[g]? = w.heap[g]?) : TQ g S T K v s w' := by
  obtain ⟨h1, h2⟩ := h
  refine ⟨h1, ?_⟩
  rcases h2 with ⟨he, _⟩ | ⟨g', cap, cur, he, hg, hc, r⟩
  · cases he
  · have e := he
    simp only [Value.slice.injEq, Option.some.injEq, Addr.mk.injEq] at e
    obtain ⟨⟨rfl, _⟩, _⟩ := e
    exact .inr ⟨g, cap, cur, he, hg, hb.trans hc, r⟩
theorem TQ.lt (h : TQ g S T K v s w) : g < w.heap.size := (World.ownsRow.lt h g rfl).2
theorem TQ.cells (h : TQ g S T K v s w) :
    (w.cell? ⟨g, 0, none⟩ = some (.int .i64 S) ∧ w.cell? ⟨g, 1, none⟩ = some (.int .i64 T) ∧ w.cell? ⟨g, 2, none⟩ = some (.int .i64 K) ∧ w.cell? ⟨g, 3, none⟩ = some v ∧ w.cell? ⟨g, 4, none⟩ = some (.bool s)) ∧ (w.frozen? ⟨g, 0, none⟩ = false ∧ w.frozen? ⟨g, 1, none⟩ = false ∧ w.frozen? ⟨g, 2, none⟩ = false ∧ w.frozen? ⟨g, 3, none⟩ = false ∧ w.frozen? ⟨g, 4, none⟩ = false) :=
  ⟨⟨World.ownsRow.cellAt h 0 (by omega), World.ownsRow.cellAt h 1 (by omega), World.ownsRow.cellAt h 2 (by omega), World.ownsRow.cellAt h 3 (by omega), World.ownsRow.cellAt h 4 (by omega)⟩, World.ownsRow.frozenAt h 0, World.ownsRow.frozenAt h 1, World.ownsRow.frozenAt h 2, World.ownsRow.frozenAt h 3, World.ownsRow.frozenAt h 4⟩
theorem TQ.set0 (h : TQ g S T K v s w) (c : Int) : TQ g c T K v s (w.setCell ⟨g, 0, none⟩ (.int .i64 c)) := (World.ownsRow.stored h 0 (.int .i64 c)).1
theorem TQ.set1 (h : TQ g S T K v s w) (c : Int) : TQ g S c K v s (w.setCell ⟨g, 1, none⟩ (.int .i64 c)) := (World.ownsRow.stored h 1 (.int .i64 c)).1
theorem TQ.set2 (h : TQ g S T K v s w) (c : Int) : TQ g S T c v s (w.setCell ⟨g, 2, none⟩ (.int .i64 c)) := (World.ownsRow.stored h 2 (.int .i64 c)).1
theorem TQ.set3 (h : TQ g S T K v s w) (u : Value) : TQ g S T K u s (w.setCell ⟨g, 3, none⟩ u) := (World.ownsRow.stored h 3 u).1
theorem TQ.set4 (h : TQ g S T K v s w) (r : Bool) : TQ g S T K v r (w.setCell ⟨g, 4, none⟩ (.bool r)) := (World.ownsRow.stored h 4 (.bool r)).1
theorem TQ.new (S T K : Int) (v : Value) (s : Bool) (w : World) : TQ w.heap.size S T K v s (w.alloc (.cells #[.int .i64 S, .int .i64 T, .int .i64 K, v, .bool s] 25)) :=
  ⟨rfl, .inr ⟨w.heap.size, 1, #[.int .i64 S, .int .i64 T, .int .i64 K, v, .bool s], rfl, Nat.zero_le _, Go.heap_alloc_new w _, Nat.le_refl _, by decide, rfl, rfl⟩⟩
/-- Entries of the call's own never lie in a summary's block. -/
theorem TQ.apart {B : Nat} {v0 : Value} {L : List Ent} (h : TQ g S T K v0 s w) (ho : OwnE B L v w) : v.ownBlock ≠ some g := by
  intro e
  rcases ho.2.2 with ⟨rfl, _⟩ | ⟨g', cap, cur, rfl, _, hc, _⟩
  · cases e
  · injection e with e
    have e : g' = g := e
    subst e
    rcases h.2 with ⟨he, _⟩ | ⟨g2, cap2, cur2, he, _, hc2, _⟩
    · cases he
    · simp only [Value.slice.injEq, Option.some.injEq, Addr.mk.injEq] at he
      obtain ⟨⟨rfl, _⟩, _⟩ := he
      rw [hc] at hc2
      injection hc2 with hc2
      injection hc2 with _ ht _
      cases ht
end
theorem OwnE.away {B : Nat} {L : List Ent} {v : Value} {w : World} (h : OwnE B L v w) {g : Nat} (hg : v.ownBlock ≠ some g) (o : Nat) (u : Value) : OwnE B L v (w.setCell ⟨g, o, none⟩ u) := ⟨h.1, ownsRow_setCell_other h.2 hg u⟩
/-- A summary under way in block g; its entries are the call's own, in another block. -/
def RQ (B g : Nat) (c : FQ) (v : Value) (w : World) : Prop := TQ g c.S c.T c.K v c.s w ∧ OwnE B c.L v w ∧ B ≤ g
section
variable {B g : Nat} {S T K : Int} {L : List Ent} {s : Bool} {v : Value} {w w' : World}
theorem RQ.go {c : FQ} (h : RQ B g c v w) (hb : Below w.heap.size w w') : RQ B g c v w' := ⟨h.1.keep (hb.block _ h.1.lt), h.2.1.below hb, h.2.2⟩
theorem RQ.lt {c : FQ} (h : RQ B g c v w) : g < w.heap.size := h.1.lt
theorem RQ.setTS (h : RQ B g ⟨S, T, K, L, s⟩ v w) (t : Int) (r : Bool) : RQ B g ⟨S, t, K, L, r⟩ v ((w.setCell ⟨g, 1, none⟩ (.int .i64 t)).setCell ⟨g, 4, none⟩ (.bool r)) :=
  ⟨(h.1.set1 t).set4 r, (h.2.1.away (h.1.apart h.2.1) _ _).away (h.1.apart h.2.1) _ _, h.2.2⟩
theorem RQ.setKS (h : RQ B g ⟨S, T, K, L, s⟩ v w) (t : Int) (r : Bool) : RQ B g ⟨S, T, t, L, r⟩ v ((w.setCell ⟨g, 2, none⟩ (.int .i64 t)).setCell ⟨g, 4, none⟩ (.bool r)) :=
  ⟨(h.1.set2 t).set4 r, (h.2.1.away (h.1.apart h.2.1) _ _).away (h.1.apart h.2.1) _ _, h.2.2⟩
theorem RQ.setE {M : List Ent} {u : Value} (h : RQ B g ⟨S, T, K, L, s⟩ v w) (ho : OwnE B M u w) : RQ B g ⟨S, T, K, M, s⟩ u (w.setCell ⟨g, 3, none⟩ u) :=
  ⟨h.1.set3 u, ho.away (h.1.apart ho) _ _, h.2.2⟩
theorem RQ.setC {ge cap : Nat} (h : RQ B g ⟨S, T, K, L, s⟩ (.slice (some ⟨ge, 0, none⟩) L.length cap) w) {j : Nat} (hj : j < L.length) {c : Int} (hx : -9223372036854775808 ≤ c ∧ c ≤ 9223372036854775807) (r : Bool) :
    RQ B g ⟨S, T, K, L.set j ⟨(L.getD j Ent.z).k, c, (L.getD j Ent.z).e⟩, r⟩ (.slice (some ⟨ge, 0, none⟩) L.length cap) ((w.setCell ⟨ge, j * 3 + 1, none⟩ (.int .i64 c)).setCell ⟨g, 4, none⟩ (.bool r)) := by
  have h1 : OwnE B L (.slice (some ⟨ge, 0, none⟩) L.length cap) w := h.2.1
  have ha := h.1.apart h1
  have hn : g ≠ ge := fun e => ha (by rw [e]; rfl)
  have h2 := h1.storedC hj hx
  refine ⟨(h.1.keep (w' := w.setCell ⟨ge, j * 3 + 1, none⟩ (.int .i64 c)) (Below.heap_setCell _ ⟨ge, j * 3 + 1, none⟩ _ g hn)).set4 r, ?_, h.2.2⟩
  exact h2.away ha _ _
theorem RQ.newA {a : Option Addr} {n cap : Nat} (h : OwnE B L (.slice a n cap) w) (hB : B ≤ w.heap.size) :
    RQ B w.heap.size ⟨S, T, K, L, s⟩ (.slice a n cap) (w.alloc (.cells #[.int .i64 S, .int .i64 T, .int .i64 K, .slice a n cap, .bool s] 25)) := ⟨TQ.new _ _ _ _ _ _, h.alloc _, hB⟩
theorem RQ.newB {v0 : Value} {a : Option Addr} {n cap : Nat} (hz : TQ B 0 0 0 v0 false w) (h : OwnE (B + 1) L (.slice a n cap) w) :
    RQ B B ⟨S, T, K, L, s⟩ (.slice a n cap) (((((w.setCell ⟨B, 0, none⟩ (.int .i64 S)).setCell ⟨B, 1, none⟩ (.int .i64 T)).setCell ⟨B, 2, none⟩ (.int .i64 K)).setCell ⟨B, 3, none⟩ (.slice a n cap)).setCell ⟨B, 4, none⟩ (.bool s)) :=
  ⟨((((hz.set0 S).set1 T).set2 K).set3 _).set4 s, (((((h.mono (Nat.le_succ _)).away (hz.apart h) _ _).away (hz.apart h) _ _).away (hz.apart h) _ _).away (hz.apart h) _ _).away (hz.apart h) _ _, Nat.le_refl _⟩
theorem RQ.size {c : FQ} (h : RQ B g c v w) : B ≤ w.heap.size := Nat.le_of_lt (Nat.lt_of_le_of_lt h.2.2 h.1.lt)
end
theorem MI.c5 {W : World} {a : FQ} {v : Value} {k : ByteArray} {x : Int} {w : World} (h : MI W a v k x w) : w.cell? ⟨W.heap.size, 0, none⟩ = some (.int .i64 a.S) ∧ w.cell? ⟨W.heap.size, 1, none⟩ = some (.int .i64 a.T) ∧ w.cell? ⟨W.heap.size, 2, none⟩ = some (.int .i64 a.K) ∧ w.cell? ⟨W.heap.size, 3, none⟩ = some v ∧ w.cell? ⟨W.heap.size, 4, none⟩ = some (.bool a.s) := h.1.1
theorem MI.al {W : World} {a : FQ} {v : Value} {k : ByteArray} {x : Int} {w : World} (h : MI W a v k x w) (o : Obj) : MI W a v k x (w.alloc o) := h.go (b1 o)
theorem MI.drew {W : World} {a : FQ} {v : Value} {k : ByteArray} {x : Int} {w : World} (h : MI W a v k x w) : MI W a v k x w.drew := h.go (Below.refl _ _).drew
theorem allocQ_size (w : World) (o : Obj) : w.heap.size + 1 ≤ (w.alloc o).heap.size := by simp
theorem allocQ_size2 (w : World) (o : Obj) : w.heap.size + 1 ≤ (w.alloc o).drew.heap.size := allocQ_size w o
end Go.Proofs.Ytmmdnomfpfcjiaa
