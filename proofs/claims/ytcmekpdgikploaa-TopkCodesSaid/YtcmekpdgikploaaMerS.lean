/- The memory of a merge of summaries. -/
import Derived.Test.YtcmekpdgikploaaJoin9
import Derived.Test.YtcmekpdgikploaaSrtV
import Derived.Test.YtcmekpdgikploaaMeetV
import Derived.Test.YtcmekpdgikploaaMeetX
namespace Go.Proofs.Ytcmekpdgikploaa
open Go.RowKit
set_option linter.unusedVariables false
set_option linter.unusedSimpArgs false
/-- The structs of a merge: both summaries and the result. -/
def MB (W : World) (S T : Int) (u : Value) (s : Bool) (S' T' : Int) (u' : Value) (s' : Bool) (w : World) : Prop :=
  TopS W.heap.size S T u s w ∧ TopS (W.heap.size + 1) S' T' u' s' w ∧ TopS (W.heap.size + 2) 0 0 (.slice none 0 0) false w ∧ Below W.heap.size W w
section
variable {W : World} {S T : Int} {u : Value} {s : Bool} {S' T' : Int} {u' : Value} {s' : Bool} {w w' : World}
theorem MB.lt (h : MB W S T u s S' T' u' s' w) : W.heap.size + 2 < w.heap.size := h.2.2.1.lt
theorem MB.bel (h : MB W S T u s S' T' u' s' w) : Below W.heap.size W w := h.2.2.2
theorem MB.keep (h : MB W S T u s S' T' u' s' w) (hb : Below (W.heap.size + 3) w w') : MB W S T u s S' T' u' s' w' :=
  ⟨h.1.keep (hb.block _ (by omega)), h.2.1.keep (hb.block _ (by omega)), h.2.2.1.keep (hb.block _ (by omega)), h.2.2.2.trans (hb.mono (by omega))⟩
theorem MB.go (h : MB W S T u s S' T' u' s' w) (hb : Below w.heap.size w w') : MB W S T u s S' T' u' s' w' := h.keep (hb.mono (by have := h.lt; omega))
theorem MB.new (W : World) (S T : Int) (u : Value) (s : Bool) (S' T' : Int) (u' : Value) (s' : Bool) :
    MB W S T u s S' T' u' s' (((W.alloc (.cells #[.int .i64 S, .int .i64 T, u, .bool s] 25)).alloc (.cells #[.int .i64 S', .int .i64 T', u', .bool s'] 25)).alloc (.cells #[.int .i64 0, .int .i64 0, .slice none 0 0, .bool false] 25)) :=
  ⟨((TopS.new S T u s 25 W).below (b1 _) (by simp)).below (b1 _) (by simp; omega), ⟨⟨by go_simp, by go_simp, by go_simp, by go_simp⟩, by go_simp, by go_simp, by go_simp, by go_simp⟩, ⟨⟨by go_simp, by go_simp, by go_simp, by go_simp⟩, by go_simp, by go_simp, by go_simp, by go_simp⟩, b3 _ _ _⟩
theorem MB.cells (h : MB W S T u s S' T' u' s' w) :
    (w.cell? ⟨W.heap.size, 0, none⟩ = some (.int .i64 S) ∧ w.cell? ⟨W.heap.size, 1, none⟩ = some (.int .i64 T) ∧ w.cell? ⟨W.heap.size, 2, none⟩ = some u ∧ w.cell? ⟨W.heap.size, 3, none⟩ = some (.bool s)) ∧
    (w.cell? ⟨W.heap.size + 1, 0, none⟩ = some (.int .i64 S') ∧ w.cell? ⟨W.heap.size + 1, 1, none⟩ = some (.int .i64 T') ∧ w.cell? ⟨W.heap.size + 1, 2, none⟩ = some u' ∧ w.cell? ⟨W.heap.size + 1, 3, none⟩ = some (.bool s')) ∧
    (w.cell? ⟨W.heap.size + 2, 0, none⟩ = some (.int .i64 0) ∧ w.cell? ⟨W.heap.size + 2, 1, none⟩ = some (.int .i64 0) ∧ w.cell? ⟨W.heap.size + 2, 2, none⟩ = some (.slice none 0 0) ∧ w.cell? ⟨W.heap.size + 2, 3, none⟩ = some (.bool false)) ∧
    (w.frozen? ⟨W.heap.size + 2, 0, none⟩ = false ∧ w.frozen? ⟨W.heap.size + 2, 1, none⟩ = false ∧ w.frozen? ⟨W.heap.size + 2, 2, none⟩ = false ∧ w.frozen? ⟨W.heap.size + 2, 3, none⟩ = false) :=
  ⟨h.1.1, h.2.1.1, h.2.2.1.1, h.2.2.1.2⟩
theorem MB.cells8 (h : MB W S T u s S' T' u' s' w) :
    w.cell? ⟨W.heap.size, 0, none⟩ = some (.int .i64 S) ∧ w.cell? ⟨W.heap.size, 1, none⟩ = some (.int .i64 T) ∧ w.cell? ⟨W.heap.size, 2, none⟩ = some u ∧ w.cell? ⟨W.heap.size, 3, none⟩ = some (.bool s) ∧
    w.cell? ⟨W.heap.size + 1, 0, none⟩ = some (.int .i64 S') ∧ w.cell? ⟨W.heap.size + 1, 1, none⟩ = some (.int .i64 T') ∧ w.cell? ⟨W.heap.size + 1, 2, none⟩ = some u' ∧ w.cell? ⟨W.heap.size + 1, 3, none⟩ = some (.bool s') :=
  ⟨h.1.1.1, h.1.1.2.1, h.1.1.2.2.1, h.1.1.2.2.2, h.2.1.1.1, h.2.1.1.2.1, h.2.1.1.2.2.1, h.2.1.1.2.2.2⟩
theorem MB.drew (h : MB W S T u s S' T' u' s' w) : MB W S T u s S' T' u' s' w.drew := h.go (Below.refl _ _).drew
theorem MB.put3 (h : MB W S T u s S' T' u' s' w) {g : Nat} (hg : W.heap.size + 3 ≤ g) (x y z : Value) : MB W S T u s S' T' u' s' (((w.setCell ⟨g, 0, none⟩ x).setCell ⟨g, 1, none⟩ y).setCell ⟨g, 2, none⟩ z) :=
  h.keep (bsetB (bsetB (bsetB (Below.refl _ _) _ _ _ hg) _ _ _ hg) _ _ _ hg)
theorem MB.put (h : MB W S T u s S' T' u' s' w) {g : Nat} (hg : W.heap.size + 3 ≤ g) (o : Nat) (x : Value) : MB W S T u s S' T' u' s' (w.setCell ⟨g, o, none⟩ x) := h.keep (bsetB (Below.refl _ _) _ _ _ hg)
theorem MB.al (h : MB W S T u s S' T' u' s' w) (o : Obj) : MB W S T u s S' T' u' s' (w.alloc o) := h.go (b1 o)
end
theorem Ix0.bd {g : Nat} {w w' : World} (h : Ix0 g w) (hb : Below w.heap.size w w') : Ix0 g w' := h.keep (hb.block _ h.lt)
theorem Ix0.al {g : Nat} {w : World} (h : Ix0 g w) (o : Obj) : Ix0 g (w.alloc o) := h.bd (b1 o)
theorem PosM.off {L : List Ent} {j b g : Nat} {w : World} (h : PosM L j b w) (h0 : Ix0 g w) : b ≠ g := by
  rintro rfl
  obtain ⟨D, n, hn, ⟨es, clock, hb, r⟩, hk⟩ := h
  have hc := h0.1.1
  unfold World.cell? at hc
  simp [hb] at hc
theorem PosM.offF {L : List Ent} {j b g : Nat} {r : Bool} {w : World} (h : PosM L j b w) (h0 : Fl g r w) : b ≠ g := by
  rintro rfl
  obtain ⟨D, n, hn, ⟨es, clock, hb, r⟩, hk⟩ := h
  have hc := h0.1
  unfold World.cell? at hc
  simp [hb] at hc
/-- An index that is laid. -/
def IxM (g : Nat) (v : Value) (L : List Ent) (b : Nat) (l : Int) (w : World) : Prop :=
  (w.cell? ⟨g, 0, none⟩ = some v ∧ w.cell? ⟨g, 1, none⟩ = some (.map (some b)) ∧ w.cell? ⟨g, 2, none⟩ = some (.int .i64 l)) ∧ PosM L L.length b w
theorem IxM.lt {g : Nat} {v : Value} {L : List Ent} {b : Nat} {l : Int} {w : World} (h : IxM g v L b l w) : g < w.heap.size := block_lt_of_cell h.1.1
theorem IxM.keep {g : Nat} {v : Value} {L : List Ent} {b : Nat} {l : Int} {w w' : World} (h : IxM g v L b l w) (h1 : w'.heap[g]? = w.heap[g]?) (h2 : w'.heap[b]? = w.heap[b]?) : IxM g v L b l w' := by
  obtain ⟨⟨a0, a1, a2⟩, hp⟩ := h
  have hc : ∀ o, w'.cell? ⟨g, o, none⟩ = w.cell? ⟨g, o, none⟩ := fun o => World.cell?_of_block (w := w) (a := ⟨g, o, none⟩) h1
  exact ⟨⟨(hc _).trans a0, (hc _).trans a1, (hc _).trans a2⟩, hp.blk h2⟩
theorem IxM.of {g : Nat} {v : Value} {L : List Ent} {b : Nat} {l : Int} {w : World} (h0 : Ix0 g w) (hp : PosM L L.length b w) :
    IxM g v L b l (((w.setCell ⟨g, 0, none⟩ v).setCell ⟨g, 1, none⟩ (.map (some b))).setCell ⟨g, 2, none⟩ (.int .i64 l)) := by
  have hne := hp.off h0
  obtain ⟨⟨a0, a1, a2⟩, f0, f1, f2⟩ := h0
  exact ⟨⟨by go_simp, by go_simp, by go_simp⟩, hp.set3 hne _ _ _⟩
/-- The state of a merge. -/
def MJ (W : World) (S T : Int) (u : Value) (s : Bool) (S' T' : Int) (u' : Value) (s' : Bool) (L M : List Ent) (la lb : Int) (gs g9 g10 b9 b10 : Nat) (r : Bool) (w : World) : Prop :=
  MB W S T u s S' T' u' s' w ∧ Fl gs r w ∧ IxM g9 u L b9 la w ∧ IxM g10 u' M b10 lb w ∧ W.heap.size + 3 ≤ gs ∧ gs ≠ g9 ∧ gs ≠ g10 ∧ gs ≠ b9 ∧ gs ≠ b10
section
variable {W : World} {S T : Int} {u : Value} {s : Bool} {S' T' : Int} {u' : Value} {s' : Bool} {L M : List Ent} {la lb : Int} {gs g9 g10 b9 b10 : Nat} {r : Bool} {w w' : World}
theorem MJ.mb (h : MJ W S T u s S' T' u' s' L M la lb gs g9 g10 b9 b10 r w) : MB W S T u s S' T' u' s' w := h.1
theorem MJ.fl (h : MJ W S T u s S' T' u' s' L M la lb gs g9 g10 b9 b10 r w) : Fl gs r w := h.2.1
theorem MJ.ix9 (h : MJ W S T u s S' T' u' s' L M la lb gs g9 g10 b9 b10 r w) : IxM g9 u L b9 la w := h.2.2.1
theorem MJ.ix10 (h : MJ W S T u s S' T' u' s' L M la lb gs g9 g10 b9 b10 r w) : IxM g10 u' M b10 lb w := h.2.2.2.1
theorem MJ.bel (h : MJ W S T u s S' T' u' s' L M la lb gs g9 g10 b9 b10 r w) : Below W.heap.size W w := h.1.2.2.2
theorem MJ.one {q : Bool} (h : MJ W S T u s S' T' u' s' L M la lb gs g9 g10 b9 b10 r w) (ho : One gs w w') (hf : Fl gs q w') : MJ W S T u s S' T' u' s' L M la lb gs g9 g10 b9 b10 q w' := by
  obtain ⟨h1, h2, h3, h4, h5, n1, n2, n3, n4⟩ := h
  exact ⟨h1.keep (ho.below h5), hf, h3.keep (ho.2.2 _ h3.lt (Ne.symm n1)) (ho.2.2 _ h3.2.lt (Ne.symm n3)), h4.keep (ho.2.2 _ h4.lt (Ne.symm n2)) (ho.2.2 _ h4.2.lt (Ne.symm n4)), h5, n1, n2, n3, n4⟩
theorem MJ.go (h : MJ W S T u s S' T' u' s' L M la lb gs g9 g10 b9 b10 r w) (hb : Below w.heap.size w w') : MJ W S T u s S' T' u' s' L M la lb gs g9 g10 b9 b10 r w' := h.one (One.of hb h.fl.lt) (h.fl.bd hb)
theorem MJ.drew (h : MJ W S T u s S' T' u' s' L M la lb gs g9 g10 b9 b10 r w) : MJ W S T u s S' T' u' s' L M la lb gs g9 g10 b9 b10 r w.drew := h.go (Below.refl _ _).drew
theorem MJ.al (h : MJ W S T u s S' T' u' s' L M la lb gs g9 g10 b9 b10 r w) (o : Obj) : MJ W S T u s S' T' u' s' L M la lb gs g9 g10 b9 b10 r (w.alloc o) := h.go (b1 o)
theorem MJ.pos9 (h : MJ W S T u s S' T' u' s' L M la lb gs g9 g10 b9 b10 r w) : PosM L L.length b9 w := h.2.2.1.2
theorem MJ.pos10 (h : MJ W S T u s S' T' u' s' L M la lb gs g9 g10 b9 b10 r w) : PosM M M.length b10 w := h.2.2.2.1.2
theorem MJ.all (h : MJ W S T u s S' T' u' s' L M la lb gs g9 g10 b9 b10 r w) : gs < w.heap.size ∧ g9 < w.heap.size ∧ g10 < w.heap.size ∧ b9 < w.heap.size ∧ b10 < w.heap.size ∧ W.heap.size + 3 ≤ w.heap.size :=
  ⟨h.fl.lt, h.ix9.lt, h.ix10.lt, h.pos9.lt, h.pos10.lt, h.mb.lt⟩
theorem MJ.keep (h : MJ W S T u s S' T' u' s' L M la lb gs g9 g10 b9 b10 r w) {B : Nat} (hB : gs < B ∧ g9 < B ∧ g10 < B ∧ b9 < B ∧ b10 < B ∧ W.heap.size + 3 ≤ B) (hb : Below B w w') : MJ W S T u s S' T' u' s' L M la lb gs g9 g10 b9 b10 r w' := by
  obtain ⟨h1, h2, h3, h4, h5⟩ := h
  obtain ⟨z1, z2, z3, z4, z5, z6⟩ := hB
  exact ⟨h1.keep (hb.mono z6), h2.keep (hb.block _ z1), h3.keep (hb.block _ z2) (hb.block _ z4), h4.keep (hb.block _ z3) (hb.block _ z5), h5⟩
/-- Both indices are laid. -/
theorem MJ.of (h : MB W S T u s S' T' u' s' w) (hf : Fl gs r w) (hg : W.heap.size + 3 ≤ gs) (i9 : Ix0 g9 w) (i10 : Ix0 g10 w) (hne : g9 ≠ g10) (p9 : PosM L L.length b9 w) (p10 : PosM M M.length b10 w) (n1 : gs ≠ g9) (n2 : gs ≠ g10) (z1 : W.heap.size + 3 ≤ g9) (z2 : W.heap.size + 3 ≤ g10)
    (hw : w' = (((((w.setCell ⟨g9, 0, none⟩ u).setCell ⟨g9, 1, none⟩ (.map (some b9))).setCell ⟨g9, 2, none⟩ (.int .i64 la)).setCell ⟨g10, 0, none⟩ u').setCell ⟨g10, 1, none⟩ (.map (some b10))).setCell ⟨g10, 2, none⟩ (.int .i64 lb)) :
    MJ W S T u s S' T' u' s' L M la lb gs g9 g10 b9 b10 r w' := by
  have n3 : gs ≠ b9 := (p9.offF hf).symm
  have n4 : gs ≠ b10 := (p10.offF hf).symm
  subst hw
  have k9 : ∀ k, k ≠ g9 → (((w.setCell ⟨g9, 0, none⟩ u).setCell ⟨g9, 1, none⟩ (.map (some b9))).setCell ⟨g9, 2, none⟩ (.int .i64 la)).heap[k]? = w.heap[k]? := fun k hk => by
    rw [Below.heap_setCell _ ⟨g9, 2, none⟩ _ _ hk, Below.heap_setCell _ ⟨g9, 1, none⟩ _ _ hk, Below.heap_setCell _ ⟨g9, 0, none⟩ _ _ hk]
  have i10' : Ix0 g10 (((w.setCell ⟨g9, 0, none⟩ u).setCell ⟨g9, 1, none⟩ (.map (some b9))).setCell ⟨g9, 2, none⟩ (.int .i64 la)) := i10.keep (k9 _ (Ne.symm hne))
  have x9 := IxM.of (v := u) (l := la) i9 p9
  have p10' := p10.set3 (p10.off i9) u (.map (some b9)) (.int .i64 la)
  have hb9 := p9.off i10
  have fl' := hf.keep (k9 gs n1)
  have mb' := h.keep (w' := ((w.setCell ⟨g9, 0, none⟩ u).setCell ⟨g9, 1, none⟩ (.map (some b9))).setCell ⟨g9, 2, none⟩ (.int .i64 la)) (bsetB (bsetB (bsetB (Below.refl _ _) _ _ _ (by omega)) _ _ _ (by omega)) _ _ _ (by omega))
  generalize ((w.setCell ⟨g9, 0, none⟩ u).setCell ⟨g9, 1, none⟩ (.map (some b9))).setCell ⟨g9, 2, none⟩ (.int .i64 la) = w1 at *
  have k10 : ∀ k, k ≠ g10 → (((w1.setCell ⟨g10, 0, none⟩ u').setCell ⟨g10, 1, none⟩ (.map (some b10))).setCell ⟨g10, 2, none⟩ (.int .i64 lb)).heap[k]? = w1.heap[k]? := fun k hk => by
    rw [Below.heap_setCell _ ⟨g10, 2, none⟩ _ _ hk, Below.heap_setCell _ ⟨g10, 1, none⟩ _ _ hk, Below.heap_setCell _ ⟨g10, 0, none⟩ _ _ hk]
  exact ⟨mb'.keep (bsetB (bsetB (bsetB (Below.refl _ _) _ _ _ (by omega)) _ _ _ (by omega)) _ _ _ (by omega)), fl'.keep (k10 _ n2), x9.keep (k10 _ hne) (k10 _ hb9), IxM.of i10' p10', hg, n1, n2, n3, n4⟩
end
abbrev ixO : Obj := .cells #[.slice none 0 0, .map none, .int .i64 0] 77
/-- The structs, the flag, and the indices made so far. -/
def KI (W : World) (S T : Int) (u : Value) (s : Bool) (S' T' : Int) (u' : Value) (s' : Bool) (gs : Nat) (r : Bool) (l : List Nat) (w : World) : Prop :=
  MB W S T u s S' T' u' s' w ∧ Fl gs r w ∧ W.heap.size + 3 ≤ gs ∧ (∀ g ∈ l, Ix0 g w ∧ gs ≠ g ∧ W.heap.size + 3 ≤ g) ∧ l.Nodup
section
variable {W : World} {S T : Int} {u : Value} {s : Bool} {S' T' : Int} {u' : Value} {s' : Bool} {L M : List Ent} {la lb : Int} {gs g9 g10 b9 b10 : Nat} {r : Bool} {w w' : World} {l : List Nat}
theorem KI.bel (h : KI W S T u s S' T' u' s' gs r l w) : Below W.heap.size W w := h.1.2.2.2
theorem KI.mb (h : KI W S T u s S' T' u' s' gs r l w) : MB W S T u s S' T' u' s' w := h.1
theorem KI.go (h : KI W S T u s S' T' u' s' gs r l w) (hb : Below w.heap.size w w') : KI W S T u s S' T' u' s' gs r l w' :=
  ⟨h.1.go hb, h.2.1.bd hb, h.2.2.1, fun g hg => ⟨(h.2.2.2.1 g hg).1.bd hb, (h.2.2.2.1 g hg).2⟩, h.2.2.2.2⟩
theorem KI.drew (h : KI W S T u s S' T' u' s' gs r l w) : KI W S T u s S' T' u' s' gs r l w.drew := h.go (Below.refl _ _).drew
theorem KI.al (h : KI W S T u s S' T' u' s' gs r l w) : KI W S T u s S' T' u' s' gs r (w.heap.size :: l) (w.alloc ixO) := by
  have h' := h.go (b1 ixO)
  have hl := h.1.lt
  have hf := h.2.1.lt
  refine ⟨h'.1, h'.2.1, h.2.2.1, fun g hg => ?_, ?_⟩
  · rcases List.mem_cons.1 hg with rfl | hg
    · exact ⟨Ix0.new _ _, by omega, by omega⟩
    · exact h'.2.2.2.1 g hg
  · refine List.nodup_cons.2 ⟨fun hm => ?_, h.2.2.2.2⟩
    have := (h.2.2.2.1 _ hm).1.lt
    omega
theorem KI.ixA {g : Nat} (h : KI W S T u s S' T' u' s' gs r (g :: l) w) : Ix0 g w ∧ g < w.heap.size ∧ W.heap.size + 3 ≤ g := ⟨(h.2.2.2.1 g (by simp)).1, (h.2.2.2.1 g (by simp)).1.lt, (h.2.2.2.1 g (by simp)).2.2⟩
theorem KI.ixB {g k : Nat} (h : KI W S T u s S' T' u' s' gs r (k :: g :: l) w) : Ix0 g w ∧ g < w.heap.size ∧ W.heap.size + 3 ≤ g := ⟨(h.2.2.2.1 g (by simp)).1, (h.2.2.2.1 g (by simp)).1.lt, (h.2.2.2.1 g (by simp)).2.2⟩
theorem KI.ne {g k : Nat} (h : KI W S T u s S' T' u' s' gs r (k :: g :: l) w) : ¬ g = k ∧ ¬ k = g := by
  have := h.2.2.2.2
  simp only [List.nodup_cons, List.mem_cons, not_or] at this
  exact ⟨fun e => this.1.1 e.symm, this.1.1⟩
theorem KI.room (h : KI W S T u s S' T' u' s' gs r l w) : W.heap.size + 3 ≤ w.heap.size ∧ W.heap.size + 3 ≤ w.heap.size + 1 := by have := h.1.lt; omega
theorem KI.al2 (h : KI W S T u s S' T' u' s' gs r l w) : KI W S T u s S' T' u' s' gs r ((w.heap.size + 1) :: w.heap.size :: l) ((w.alloc ixO).alloc ixO) := by
  have := h.al.al
  rwa [show (w.alloc ixO).heap.size = w.heap.size + 1 by simp] at this
theorem KI.fin (h : KI W S T u s S' T' u' s' gs r [g10, g9] w) (p9 : PosM L L.length b9 w) (p10 : PosM M M.length b10 w)
    (hw : w' = (((((w.setCell ⟨g9, 0, none⟩ u).setCell ⟨g9, 1, none⟩ (.map (some b9))).setCell ⟨g9, 2, none⟩ (.int .i64 la)).setCell ⟨g10, 0, none⟩ u').setCell ⟨g10, 1, none⟩ (.map (some b10))).setCell ⟨g10, 2, none⟩ (.int .i64 lb)) :
    MJ W S T u s S' T' u' s' L M la lb gs g9 g10 b9 b10 r w' := by
  obtain ⟨h1, h2, h3, h4, h5⟩ := h
  obtain ⟨a1, a2, a3⟩ := h4 g9 (by simp)
  obtain ⟨c1, c2, c3⟩ := h4 g10 (by simp)
  exact MJ.of h1 h2 h3 a1 c1 (fun e => by simp [e] at h5) p9 p10 a2 c2 a3 c3 hw
theorem KI.fin' (h : KI W S T u s S' T' u' s' gs r [g9, g10] w) (p9 : PosM L L.length b9 w) (p10 : PosM M M.length b10 w)
    (hw : w' = (((((w.setCell ⟨g9, 0, none⟩ u).setCell ⟨g9, 1, none⟩ (.map (some b9))).setCell ⟨g9, 2, none⟩ (.int .i64 la)).setCell ⟨g10, 0, none⟩ u').setCell ⟨g10, 1, none⟩ (.map (some b10))).setCell ⟨g10, 2, none⟩ (.int .i64 lb)) :
    MJ W S T u s S' T' u' s' L M la lb gs g9 g10 b9 b10 r w' := by
  obtain ⟨h1, h2, h3, h4, h5⟩ := h
  obtain ⟨a1, a2, a3⟩ := h4 g9 (by simp)
  obtain ⟨c1, c2, c3⟩ := h4 g10 (by simp)
  exact MJ.of h1 h2 h3 a1 c1 (fun e => by simp [e] at h5) p9 p10 a2 c2 a3 c3 hw
end
theorem At3.new (x : Ent) (w : World) : At3 x w.heap.size 0 (w.alloc (.cells #[.string x.k, .int .i64 x.c, .int .i64 x.e] 49)) := ⟨by go_simp, by go_simp, by go_simp⟩
theorem At3.lt {x : Ent} {b : Nat} {w : World} (h : At3 x b 0 w) : b < w.heap.size := block_lt_of_cell h.1
theorem At3.go {x : Ent} {b : Nat} {w w' : World} (h : At3 x b 0 w) (hb : Below w.heap.size w w') : At3 x b 0 w' := h.below hb h.lt
theorem At3.zero {x : Ent} {b : Nat} {w : World} (h : At3 x b 0 w) : w.cell? ⟨b, 0, none⟩ = some (.string x.k) ∧ w.cell? ⟨b, 1, none⟩ = some (.int .i64 x.c) ∧ w.cell? ⟨b, 2, none⟩ = some (.int .i64 x.e) := h
abbrev entO (x : Ent) : Obj := .cells #[.string x.k, .int .i64 x.c, .int .i64 x.e] 49
theorem OwnE.turn {B g : Nat} {L : List Ent} {v : Value} {w w' : World} (h : OwnE B L v w) (ho : One g w w') (hg : g < B) : OwnE B L v w' := by
  obtain ⟨hy, h1, h2⟩ := h
  refine ⟨hy, h1, ?_⟩
  rcases h2 with h2 | ⟨b, cap, cur, rfl, hb', hg', r⟩
  · exact .inl h2
  · exact .inr ⟨b, cap, cur, rfl, hb', (ho.2.2 b (Array.getElem?_eq_some_iff.1 hg').1 (by omega)).trans hg', r⟩
end Go.Proofs.Ytcmekpdgikploaa
