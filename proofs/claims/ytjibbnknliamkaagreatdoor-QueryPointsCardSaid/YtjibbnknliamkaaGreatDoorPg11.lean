/- VtR, Lev, RkM, RSrtK, RkG, PFVal: in one text. -/
import Derived.Test.YtjibbnknliamkaaGreatDoorPg09
import Derived.Test.YtjibbnknliamkaaGreatDoorPg04
import Derived.Test.YtjibbnknliamkaaGreatDoorPg03
import Derived.Test.YtjibbnknliamkaaGreatDoorPg07
import Derived.Test.YtjibbnknliamkaaGreatDoorPg00
import Derived.Test.YtjibbnknliamkaaGreatDoorPg08
import Derived.Test.YtjibbnknliamkaaGreatDoorPg01
import Derived.Test.YtjibbnknliamkaaGreatDoorPg06
import Derived.Test.YtjibbnknliamkaaGreatDoorPg10
import Derived.Test.YtjibbnknliamkaaGreatDoorPg02
import Derived.Deep.RegionHeld3
import Derived.Deep.MidRow
import Derived.Shelf.Strconv.Itoa0
import Derived.Deep.RegionLaw
import Derived.OneCell
import Derived.Deep.QuietTactic
import Derived.BigQuiet
import Derived.Lib.SliceRun
import Derived.Lib.Walk
namespace Go.Proofs.YtjibbnknliamkaaGreatDoor
open Go.RowKit
set_option linter.unusedVariables false
set_option linter.unusedSimpArgs false
theorem row_apart {w : World} {B B' : Nat} {t t' : TypeId} {m m' : Nat} {v v' : Value} {n n' : Nat} {c c' : List Value} (h : w.ownsRow B t m v n c) (h' : w.ownsRow B' t' m' v' n' c') (ht : t ≠ t') {g : Nat} (hg : v.ownBlock = some g) : v'.ownBlock ≠ some g := by
  intro e
  rcases h.2 with ⟨rfl, _⟩ | ⟨g1, cap, cur, rfl, _, hc, _⟩
  · cases hg
  · injection hg with hg
    have hg : g1 = g := hg
    subst hg
    rcases h'.2 with ⟨rfl, _⟩ | ⟨g2, cap2, cur2, rfl, _, hc2, _⟩
    · cases e
    · injection e with e
      have e : g2 = g1 := e
      subst e
      rw [hc] at hc2
      injection hc2 with hc2
      injection hc2 with _ h3 _
      exact ht h3
theorem row_keep {w w' : World} {B : Nat} {t : TypeId} {m : Nat} {v : Value} {n : Nat} {c : List Value} (h : w.ownsRow B t m v n c) (hb : ∀ g, g < w.heap.size → v.ownBlock = some g → w'.heap[g]? = w.heap[g]?) : w'.ownsRow B t m v n c := by
  refine ⟨h.1, ?_⟩
  rcases h.2 with h2 | ⟨g1, cap, cur, rfl, h3, hc, r⟩
  · exact .inl h2
  · exact .inr ⟨g1, cap, cur, rfl, h3, (hb g1 (Array.getElem?_eq_some_iff.1 hc).1 rfl).trans hc, r⟩
/-- Just the own row of v has turned. -/
def Lone (v : Value) (w w' : World) : Prop := w.heap.size ≤ w'.heap.size ∧ ∀ g, g < w.heap.size → v.ownBlock ≠ some g → w'.heap[g]? = w.heap[g]?
theorem row_lone {w w' : World} {B B' : Nat} {t t' : TypeId} {m m' : Nat} {v v' : Value} {n n' : Nat} {c c' : List Value} (h : w.ownsRow B t m v n c) (h' : w.ownsRow B' t' m' v' n' c') (ht : t ≠ t') (hl : Lone v' w w') : w'.ownsRow B t m v n c :=
  row_keep h (fun g hg e => hl.2 g hg (row_apart h h' ht e))
theorem Lone.set {a : Option Addr} {n cap g : Nat} (w : World) (j : Nat) (x : Value) (ha : a = some ⟨g, 0, none⟩) : Lone (.slice a n cap) w (w.setCell ⟨g, j, none⟩ x) := by
  subst ha
  exact ⟨by simp, fun k hk hne => Below.heap_setCell _ ⟨g, j, none⟩ _ _ (fun e => hne (by rw [e]; rfl))⟩
section
variable {W : World} {g : Nat} {c d : TP} {v : Value} {Ks Ks' : List ByteArray} {vK vK' : Value} {Ws Ws' : List Int} {vW vW' : Value} {w w' : World}
end
theorem OwnS.len {B : Nat} {L : List ByteArray} {a : Option Addr} {n cap : Nat} {w : World} (h : OwnS B L (.slice a n cap) w) : n = L.length := by
  obtain ⟨a', cap', he, _⟩ := h.rd
  simp only [Value.slice.injEq] at he
  exact he.2.1
theorem OwnI.len {B : Nat} {L : List Int} {a : Option Addr} {n cap : Nat} {w : World} (h : OwnI B L (.slice a n cap) w) : n = L.length := by
  obtain ⟨a', cap', he⟩ := h.rd.shape
  simp only [Value.slice.injEq] at he
  exact he.2.1
theorem OwnS.at_ {B : Nat} {L : List ByteArray} {g n cap : Nat} {w : World} (h : OwnS B L (.slice (some ⟨g, 0, none⟩) n cap) w) {j : Nat} (hj : j < L.length) : w.cell? ⟨g, j, none⟩ = some (.string (L.getD j ByteArray.empty)) := by
  have e := h.len
  subst e
  exact (World.ownsRow.cellAt h j (by omega)).trans (cellsS_at hj)
theorem En3.new (w : World) : En3 w.heap.size (w.alloc (.cells #[.string ⟨#[]⟩, .int .i64 0, .int .i64 0] 64)) := ⟨⟨by go_simp, by go_simp, by go_simp⟩, by go_simp, by go_simp, by go_simp⟩
theorem En3.bd {g : Nat} {w w' : World} (h : En3 g w) (hb : Below w.heap.size w w') : En3 g w' := h.keep (hb.block _ h.lt)
end Go.Proofs.YtjibbnknliamkaaGreatDoor
namespace Go.Proofs.YtjibbnknliamkaaGreatDoor
open Go.RowKit
set_option linter.unusedVariables false
set_option linter.unusedSimpArgs false
/-- The block of v' is that of v, or new. -/
def Fr (v v' : Value) (w : World) : Prop := v'.ownBlock = v.ownBlock ∨ v'.ownBlock = some w.heap.size
section
variable {P : Program} (w : World)
end
theorem Lone.grown {v : Value} {w w' : World} (h : w.grownBy w' v.ownBlock) : Lone v w w' := ⟨h.size, fun g hg hne => h.block g hg (Ne.symm hne)⟩
theorem Lone.size {v : Value} {w w' : World} (h : Lone v w w') : w.heap.size ≤ w'.heap.size := h.1
abbrev nilS : Value := .slice none 0 0
def One_2 (us : List Value) : Prop := ∀ u ∈ us, u.oneCell' = true
theorem One_2.app {us vs : List Value} (h : One_2 us) (k : One_2 vs) : One_2 (us ++ vs) := fun u hu => (List.mem_append.1 hu).elim (h u) (k u)
/-- A row of slices of the call's own. -/
def OwnV (B : Nat) (us : List Value) (v : Value) (w : World) : Prop := One_2 us ∧ w.ownsRow B 72 1 v us.length us
/-- A row of slices that can be read. -/
def RdV (us : List Value) (v : Value) (w : World) : Prop :=
  One_2 us ∧ ∃ a cap, v = .slice a us.length cap ∧ us.length ≤ cap ∧ cap ≤ maxLen ∧ (0 < us.length → ∃ b off, a = some ⟨b, off, none⟩ ∧ b < w.heap.size ∧ ∀ j, j < us.length → w.cell? ⟨b, off + j, none⟩ = some (us.getD j nilS))
theorem at_getD {us : List Value} {j : Nat} (h : j < us.length) : us[j]? = some (us.getD j nilS) := by simp [List.getD, h]
theorem RdV.below {us : List Value} {v : Value} {w w' : World} (h : RdV us v w) (hb : Below w.heap.size w w') : RdV us v w' := by
  obtain ⟨h0, a, cap, rfl, h1, h2, h3⟩ := h
  refine ⟨h0, a, cap, rfl, h1, h2, fun hp => ?_⟩
  obtain ⟨b, off, rfl, hlt, hc⟩ := h3 hp
  exact ⟨b, off, rfl, Nat.lt_of_lt_of_le hlt hb.size, fun j hj => (hb.cell (p := ⟨b, off + j, none⟩) hlt).trans (hc j hj)⟩
theorem RdV.shape {us : List Value} {v : Value} {w : World} (h : RdV us v w) : ∃ a cap, v = .slice a us.length cap := by
  obtain ⟨_, a, cap, rfl, _⟩ := h
  exact ⟨a, cap, rfl⟩
theorem OwnV.rd {B : Nat} {us : List Value} {v : Value} {w : World} (h : OwnV B us v w) : RdV us v w := by
  obtain ⟨hy, ho⟩ := h
  have hl := World.ownsRow.lt ho
  refine ⟨hy, ?_⟩
  rcases ho.2 with ⟨rfl, hn⟩ | ⟨g, cap, cur, rfl, hb, _, h1, h2, _⟩
  · exact ⟨none, 0, by rw [hn], by omega, by simp [maxLen], fun hp => by omega⟩
  · exact ⟨some ⟨g, 0, none⟩, cap, rfl, h1, h2, fun hp => ⟨g, 0, rfl, (hl g rfl).2, fun j hj => by
      rw [Nat.zero_add]; exact (World.ownsRow.cellAt ho j (by omega)).trans (at_getD hj)⟩⟩
theorem OwnV.mono {B B' : Nat} {us : List Value} {v : Value} {w : World} (h : OwnV B us v w) (hB : B' ≤ B) : OwnV B' us v w := by
  obtain ⟨hy, h1, h2⟩ := h
  refine ⟨hy, h1, ?_⟩
  rcases h2 with h2 | ⟨g, cap, cur, rfl, hb, r⟩
  · exact .inl h2
  · exact .inr ⟨g, cap, cur, rfl, Nat.le_trans hB hb, r⟩
theorem OwnV.keep {B : Nat} {us : List Value} {v : Value} {w w' : World} (h : OwnV B us v w) (hb : ∀ g, g < w.heap.size → v.ownBlock = some g → w'.heap[g]? = w.heap[g]?) : OwnV B us v w' := ⟨h.1, row_keep h.2 hb⟩
theorem OwnV.below {B : Nat} {us : List Value} {v : Value} {w w' : World} (h : OwnV B us v w) (hb : Below w.heap.size w w') : OwnV B us v w' := h.keep (fun g hg _ => hb.block g hg)
theorem OwnV.alloc {B : Nat} {us : List Value} {v : Value} {w : World} (h : OwnV B us v w) (o : Obj) : OwnV B us v (w.alloc o) := h.below (b1 o)
theorem OwnV.empty (B : Nat) (w : World) : OwnV B [] (.slice none 0 0) w := ⟨fun _ h => (by cases h), World.ownsRow_nil _ _ _ _⟩
theorem OwnV.one {u : Value} (hu : u.oneCell' = true) (w : World) : OwnV w.heap.size [u] (.slice (some ⟨w.heap.size, 0, none⟩) 1 1) (w.alloc (.cells #[u] 72)) :=
  ⟨fun x hx => by rw [List.mem_singleton] at hx; rw [hx]; exact hu, rfl, .inr ⟨w.heap.size, 1, #[u], rfl, Nat.le_refl _, Go.heap_alloc_new w _, Nat.le_refl _, by decide, rfl, rfl⟩⟩
theorem OwnS.keep {B : Nat} {L : List ByteArray} {v : Value} {w w' : World} (h : OwnS B L v w) (hb : ∀ g, g < w.heap.size → v.ownBlock = some g → w'.heap[g]? = w.heap[g]?) : OwnS B L v w' := row_keep h hb
theorem RdS.shape {L : List ByteArray} {v : Value} {w : World} (h : RdS L v w) : ∃ a cap, v = .slice a L.length cap := by
  obtain ⟨a, cap, rfl, _⟩ := h
  exact ⟨a, cap, rfl⟩
theorem OwnV.lt {B : Nat} {us : List Value} {v : Value} {w : World} (h : OwnV B us v w) {g : Nat} (hg : v.ownBlock = some g) : B ≤ g ∧ g < w.heap.size := World.ownsRow.lt h.2 g hg
theorem OwnS.lt {B : Nat} {L : List ByteArray} {v : Value} {w : World} (h : OwnS B L v w) {g : Nat} (hg : v.ownBlock = some g) : B ≤ g ∧ g < w.heap.size := World.ownsRow.lt h g hg
theorem OwnS.vapart {B B' : Nat} {L : List ByteArray} {us : List Value} {u v : Value} {w : World} (h : OwnS B L u w) (ho : OwnV B' us v w) {g : Nat} (hg : u.ownBlock = some g) : v.ownBlock ≠ some g := row_apart h ho.2 (by decide) hg
/-- An own row of slices with an element: its cells, and what a store leaves. -/
theorem OwnV.cells {B : Nat} {us : List Value} {a : Option Addr} {n cap : Nat} {w : World} (h : OwnV B us (.slice a n cap) w) (hp : 0 < us.length) :
    ∃ g, a = some ⟨g, 0, none⟩ ∧ n = us.length ∧ B ≤ g ∧ g < w.heap.size ∧ (∀ j, j < us.length → w.cell? ⟨g, j, none⟩ = some (us.getD j nilS) ∧ w.frozen? ⟨g, j, none⟩ = false) := by
  obtain ⟨hy, ho⟩ := h
  have h2 := ho.2
  rcases h2 with ⟨he, hn⟩ | ⟨g, cap', cur, he, hb, _⟩
  · omega
  · simp only [Value.slice.injEq] at he
    obtain ⟨rfl, hnl, rfl⟩ := he
    subst hnl
    exact ⟨g, rfl, rfl, hb, (World.ownsRow.lt ho g rfl).2, fun j hj => ⟨(World.ownsRow.cellAt ho j (by omega)).trans (at_getD hj), World.ownsRow.frozenAt ho j⟩⟩
theorem OwnV.put {B : Nat} {us : List Value} {g n cap : Nat} {w : World} (h : OwnV B us (.slice (some ⟨g, 0, none⟩) n cap) w) (hp : 0 < us.length) (j : Nat) {u : Value} (hu : u.oneCell' = true) : OwnV B (us.set j u) (.slice (some ⟨g, 0, none⟩) n cap) (w.setCell ⟨g, j, none⟩ u) := by
  obtain ⟨g', he, hn, -, -, -⟩ := h.cells hp
  subst hn
  refine ⟨fun x hx => ?_, ?_⟩
  · rcases List.mem_or_eq_of_mem_set hx with h' | rfl
    · exact h.1 x h'
    · exact hu
  · rw [List.length_set]
    exact (World.ownsRow.stored h.2 j u).1
/-- What may be appended: the slices ms. -/
def FromV (ms : List Value) (tx : TypeId) (u : Value) (w : World) : Prop := One_2 ms ∧ Src Tryz.prog 1 tx u ms.length ms w
theorem RdV.src {us : List Value} {v : Value} {w : World} (h : RdV us v w) : FromV us 44 v w := by
  obtain ⟨hy, a, cap, rfl, h1, h2, h3⟩ := h
  refine ⟨hy, ?_⟩
  have hl : us.length = us.length * 1 := by rw [Nat.mul_one]
  cases a with
  | none =>
    by_cases hp : 0 < us.length
    · obtain ⟨b, off, he, _⟩ := h3 hp
      cases he
    · have : us = [] := List.eq_nil_of_length_eq_zero (by omega)
      subst this
      exact Src.ofNil w Tryz.underlying44 cap
  | some ad =>
    refine Src.ofSlice w Tryz.underlying44 ad us.length cap us hl (fun j u hu => ?_) hy
    have hj : j < us.length := (List.getElem?_eq_some_iff.1 hu).1
    obtain ⟨b, off, he, _, hc⟩ := h3 (by omega)
    cases he
    rw [Addr.add_lit, hc j hj]
    rw [at_getD hj] at hu
    exact hu
section
variable {w : World}
end
/-- Levels that can be read: the slices us lie in the row, and each reads as its level. -/
def AllR (L : List (List ByteArray)) (us : List Value) (w : World) : Prop := us.length = L.length ∧ ∀ j, j < L.length → RdS (L.getD j []) (us.getD j nilS) w
def RdL_2 (L : List (List ByteArray)) (v : Value) (w : World) : Prop := ∃ us, RdV us v w ∧ AllR L us w
theorem AllR.below {L : List (List ByteArray)} {us : List Value} {w w' : World} (h : AllR L us w) (hb : Below w.heap.size w w') : AllR L us w' := ⟨h.1, fun j hj => (h.2 j hj).below hb⟩
theorem RdL_2.below {L : List (List ByteArray)} {v : Value} {w w' : World} (h : RdL_2 L v w) (hb : Below w.heap.size w w') : RdL_2 L v w' := by
  obtain ⟨us, h1, h2⟩ := h
  exact ⟨us, h1.below hb, h2.below hb⟩
theorem RdL_2.shape {L : List (List ByteArray)} {v : Value} {w : World} (h : RdL_2 L v w) : ∃ a cap, v = .slice a L.length cap := by
  obtain ⟨us, h1, h2⟩ := h
  rw [← h2.1]
  exact h1.shape
/-- The cell of a level, and what it reads as. -/
theorem RdL_2.at_ {L : List (List ByteArray)} {a : Option Addr} {n cap : Nat} {w : World} (h : RdL_2 L (.slice a n cap) w) {k : Nat} (hk : k < L.length) :
    ∃ b off u m c, a = some ⟨b, off, none⟩ ∧ n = L.length ∧ b < w.heap.size ∧ w.cell? ⟨b, off + k, none⟩ = some (.slice u m c) ∧ RdS (L.getD k []) (.slice u m c) w ∧ m = (L.getD k []).length := by
  obtain ⟨us, ⟨-, a', cap', he, -, -, h3⟩, h4, h5⟩ := h
  simp only [Value.slice.injEq] at he
  obtain ⟨rfl, rfl, rfl⟩ := he
  obtain ⟨b, off, rfl, hb, hc⟩ := h3 (by omega)
  have hr := h5 k hk
  obtain ⟨u, c, hu⟩ := hr.shape
  have hcu := hc k (by omega)
  rw [hu] at hcu hr
  exact ⟨b, off, u, _, c, rfl, h4, hb, hcu, hr, rfl⟩
/-- Levels of the call's own: no two of the slices us lie in one block. -/
def Apart (us : List Value) : Prop := ∀ i j, i < us.length → j < us.length → i ≠ j → ∀ g, (us.getD i nilS).ownBlock = some g → (us.getD j nilS).ownBlock ≠ some g
def AllO (B : Nat) (L : List (List ByteArray)) (us : List Value) (w : World) : Prop := us.length = L.length ∧ ∀ j, j < L.length → OwnS B (L.getD j []) (us.getD j nilS) w
def OwnL_2 (B : Nat) (L : List (List ByteArray)) (us : List Value) (v : Value) (w : World) : Prop := OwnV B us v w ∧ AllO B L us w ∧ Apart us
section
variable {B : Nat} {L : List (List ByteArray)} {us : List Value} {v : Value} {w w' : World}
theorem AllO.rd (h : AllO B L us w) : AllR L us w := ⟨h.1, fun j hj => (h.2 j hj).rd⟩
theorem OwnL_2.rd (h : OwnL_2 B L us v w) : RdL_2 L v w := ⟨us, h.1.rd, h.2.1.rd⟩
theorem OwnL_2.len (h : OwnL_2 B L us v w) : us.length = L.length := h.2.1.1
theorem OwnL_2.below (h : OwnL_2 B L us v w) (hb : Below w.heap.size w w') : OwnL_2 B L us v w' := ⟨h.1.below hb, ⟨h.2.1.1, fun j hj => (h.2.1.2 j hj).below hb⟩, h.2.2⟩
theorem OwnL_2.mono {B' : Nat} (h : OwnL_2 B L us v w) (hB : B' ≤ B) : OwnL_2 B' L us v w := ⟨h.1.mono hB, ⟨h.2.1.1, fun j hj => (h.2.1.2 j hj).mono hB⟩, h.2.2⟩
theorem OwnL_2.empty (B : Nat) (w : World) : OwnL_2 B [] [] (.slice none 0 0) w := ⟨OwnV.empty _ _, ⟨rfl, fun j hj => by cases hj⟩, fun i j hi => by cases hi⟩
theorem OwnS.cell1 {B : Nat} {M : List ByteArray} {u : Value} {w : World} (h : OwnS B M u w) : u.oneCell' = true := by
  obtain ⟨a, c, rfl⟩ := h.rd.shape
  rfl
theorem getD_set_ne {α : Type} {l : List α} {i j : Nat} {x d : α} (h : i ≠ j) : (l.set i x).getD j d = l.getD j d := by simp [List.getD, List.getElem?_set, h]
theorem getD_set_eq {α : Type} {l : List α} {i : Nat} {x d : α} (h : i < l.length) : (l.set i x).getD i d = x := by simp [List.getD, h]
/-- The row of level j has turned alone; u is what it became. -/
theorem OwnL_2.turn (h : OwnL_2 B L us v w) {j : Nat} (hj : j < L.length) {M : List ByteArray} {u : Value} (hu : OwnS B M u w') (hl : Lone (us.getD j nilS) w w') (hf : Fr (us.getD j nilS) u w) :
    OwnV B us v w' ∧ (∀ i, i < L.length → i ≠ j → OwnS B (L.getD i []) (us.getD i nilS) w') ∧ (∀ i, i < L.length → i ≠ j → ∀ g, (us.getD i nilS).ownBlock = some g → u.ownBlock ≠ some g) := by
  obtain ⟨h1, ⟨h2, h3⟩, h4⟩ := h
  refine ⟨h1.keep (fun g hg e => hl.2 g hg (fun e' => (h3 j hj).vapart h1 e' e)), fun i hi hne => (h3 i hi).keep (fun g hg e => hl.2 g hg (h4 i j (by omega) (by omega) hne g e)), fun i hi hne g hg e => ?_⟩
  rcases hf with hf | hf
  · rw [hf] at e
    exact h4 i j (by omega) (by omega) hne g hg e
  · rw [hf] at e
    have := (h3 i hi).lt hg
    simp only [Option.some.injEq] at e
    omega
/-- .. and lies in the row now. -/
theorem OwnL_2.set {g n cap : Nat} (h : OwnL_2 B L us (.slice (some ⟨g, 0, none⟩) n cap) w) {j : Nat} (hj : j < L.length) {M : List ByteArray} {u : Value} (hu : OwnS B M u w') (hl : Lone (us.getD j nilS) w w') (hf : Fr (us.getD j nilS) u w) :
    OwnL_2 B (L.set j M) (us.set j u) (.slice (some ⟨g, 0, none⟩) n cap) (w'.setCell ⟨g, j, none⟩ u) := by
  obtain ⟨t1, t2, t3⟩ := h.turn hj hu hl hf
  have hlen := h.len
  have hg : (Value.slice (some ⟨g, 0, none⟩) n cap).ownBlock = some g := rfl
  have away : ∀ {M : List ByteArray} {x : Value}, OwnS B M x w' → OwnS B M x (w'.setCell ⟨g, j, none⟩ u) := fun hx => hx.keep (fun k hk e => Below.heap_setCell _ ⟨g, j, none⟩ _ _ (fun e' => by subst e'; exact hx.vapart t1 e hg))
  refine ⟨t1.put (by omega) j hu.cell1, ⟨by rw [List.length_set, List.length_set]; exact hlen, fun i hi => ?_⟩, fun a b ha hb hne k hk => ?_⟩
  · rw [List.length_set] at hi
    by_cases hij : j = i
    · subst hij
      rw [getD_set_eq hj, getD_set_eq (by omega)]
      exact away hu
    · rw [getD_set_ne hij, getD_set_ne hij]
      exact away (t2 i hi (Ne.symm hij))
  · rw [List.length_set] at ha hb
    by_cases h1 : j = a
    · subst h1
      rw [getD_set_eq ha] at hk
      rw [getD_set_ne hne]
      exact fun e => t3 b (by omega) (Ne.symm hne) k e hk
    · rw [getD_set_ne h1] at hk
      by_cases h2 : j = b
      · subst h2
        rw [getD_set_eq hb]
        exact t3 a (by omega) hne k hk
      · rw [getD_set_ne h2]
        exact h.2.2 a b ha hb hne k hk
end
end Go.Proofs.YtjibbnknliamkaaGreatDoor
namespace Go.Proofs.YtjibbnknliamkaaGreatDoor
open Go.RowKit
set_option linter.unusedVariables false
set_option linter.unusedSimpArgs false
def SOk (l : List ByteArray) : Prop := ∀ x ∈ l, x.size ≤ maxLen
theorem SOk.at_ {l : List ByteArray} (h : SOk l) (k : Nat) : (l.getD k ByteArray.empty).size ≤ maxLen := by
  by_cases hk : k < l.length
  · exact h _ (getD_mem hk)
  · rw [show l.getD k ByteArray.empty = ByteArray.empty by simp [List.getD, List.getElem?_eq_none (Nat.le_of_not_lt hk)]]
    exact Nat.zero_le _
/-- A summary that can be read. -/
def RdR (t : RK) (v : Value) (w : World) : Prop := ∃ a n cap, v = .agg #[.int .i64 t.S, .int .i64 t.T, .int .i64 t.K, .slice a n cap, .bool t.s] ∧ RdL_2 t.L (.slice a n cap) w
theorem RdR.below {t : RK} {v : Value} {w w' : World} (h : RdR t v w) (hb : Below w.heap.size w w') : RdR t v w' := by
  obtain ⟨a, n, cap, rfl, h⟩ := h
  exact ⟨a, n, cap, rfl, h.below hb⟩
/-- A struct of five cells in memory: a summary. -/
def RsS (g : Nat) (S T K : Int) (v : Value) (s : Bool) (w : World) : Prop :=
  (w.cell? ⟨g, 0, none⟩ = some (.int .i64 S) ∧ w.cell? ⟨g, 1, none⟩ = some (.int .i64 T) ∧ w.cell? ⟨g, 2, none⟩ = some (.int .i64 K) ∧ w.cell? ⟨g, 3, none⟩ = some v ∧ w.cell? ⟨g, 4, none⟩ = some (.bool s)) ∧
    w.frozen? ⟨g, 0, none⟩ = false ∧ w.frozen? ⟨g, 1, none⟩ = false ∧ w.frozen? ⟨g, 2, none⟩ = false ∧ w.frozen? ⟨g, 3, none⟩ = false ∧ w.frozen? ⟨g, 4, none⟩ = false
theorem RsS.keep {g : Nat} {S T K : Int} {v : Value} {s : Bool} {w w' : World} (h : RsS g S T K v s w) (hb : w'.heap[g]? = w.heap[g]?) : RsS g S T K v s w' := by
  obtain ⟨⟨h0, h1, h2, h3, h4⟩, f0, f1, f2, f3, f4⟩ := h
  have hc : ∀ o, w'.cell? ⟨g, o, none⟩ = w.cell? ⟨g, o, none⟩ := fun o => World.cell?_of_block (w := w) (a := ⟨g, o, none⟩) hb
  have hf : ∀ o, w'.frozen? ⟨g, o, none⟩ = w.frozen? ⟨g, o, none⟩ := fun o => World.frozen?_of_block (w := w) (a := ⟨g, o, none⟩) hb
  exact ⟨⟨(hc _).trans h0, (hc _).trans h1, (hc _).trans h2, (hc _).trans h3, (hc _).trans h4⟩, (hf _).trans f0, (hf _).trans f1, (hf _).trans f2, (hf _).trans f3, (hf _).trans f4⟩
theorem RsS.below {g : Nat} {S T K : Int} {v : Value} {s : Bool} {w w' : World} (h : RsS g S T K v s w) {B : Nat} (hb : Below B w w') (hg : g < B) : RsS g S T K v s w' := h.keep (hb.block g hg)
theorem RsS.new (S T K : Int) (v : Value) (s : Bool) (t : TypeId) (w : World) : RsS w.heap.size S T K v s (w.alloc (.cells #[.int .i64 S, .int .i64 T, .int .i64 K, v, .bool s] t)) := by
  exact ⟨⟨by go_simp, by go_simp, by go_simp, by go_simp, by go_simp⟩, by go_simp, by go_simp, by go_simp, by go_simp, by go_simp⟩
theorem RsS.lt {g : Nat} {S T K : Int} {v : Value} {s : Bool} {w : World} (h : RsS g S T K v s w) : g < w.heap.size := by
  have h0 := h.1.1
  unfold World.cell? at h0
  cases hb : w.heap[g]? with
  | none => simp [hb] at h0
  | some o => exact (Array.getElem?_eq_some_iff.1 hb).1
theorem RsS.go {g : Nat} {S T K : Int} {v : Value} {s : Bool} {w w' : World} (h : RsS g S T K v s w) (hb : Below w.heap.size w w') : RsS g S T K v s w' := h.below hb h.lt
/-- A summary in a block of the call's own, its levels readable. -/
def MR (W : World) (g : Nat) (t : RK) (v : Value) (w : World) : Prop := RsS g t.S t.T t.K v t.s w ∧ RdL_2 t.L v w ∧ Below W.heap.size W w
theorem MR.go {W : World} {g : Nat} {t : RK} {v : Value} {w w' : World} (h : MR W g t v w) (hb : Below w.heap.size w w') : MR W g t v w' := ⟨h.1.go hb, h.2.1.below hb, bgo h.2.2 hb⟩
/-- The key ahead of position j. -/
def prevS (l : List ByteArray) (j : Nat) : ByteArray := if j = 0 then ⟨#[]⟩ else l.getD (j - 1) ByteArray.empty
theorem prevS_zero (l : List ByteArray) : prevS l 0 = ⟨#[]⟩ := rfl
theorem prevS_succ (l : List ByteArray) (j : Nat) : prevS l (j + 1) = l.getD j ByteArray.empty := by unfold prevS; rw [if_neg (by omega), Nat.add_sub_cancel]
theorem RdS.cell {l : List ByteArray} {a : Option Addr} {n cap : Nat} {w : World} (h : RdS l (.slice a n cap) w) {k : Nat} (hk : k < l.length) : ∃ b off, a = some ⟨b, off, none⟩ ∧ b < w.heap.size ∧ w.cell? ⟨b, off + k, none⟩ = some (.string (l.getD k ByteArray.empty)) := by
  obtain ⟨a', cap', he, h1, h2, h3⟩ := h
  simp only [Value.slice.injEq] at he
  obtain ⟨rfl, rfl, rfl⟩ := he
  obtain ⟨b, off, rfl, hb, hc⟩ := h3 (by omega)
  exact ⟨b, off, rfl, hb, hc k hk⟩
end Go.Proofs.YtjibbnknliamkaaGreatDoor
namespace Go.Proofs.YtjibbnknliamkaaGreatDoor
open Go.RowKit
set_option linter.unusedVariables false
set_option linter.unusedSimpArgs false
theorem OwnS.block {B : Nat} {L : List ByteArray} {a : Option Addr} {n cap : Nat} {w : World} (h : OwnS B L (.slice a n cap) w) (hp : 0 < L.length) : ∃ g, a = some ⟨g, 0, none⟩ ∧ n = L.length ∧ B ≤ g ∧ g < w.heap.size := by
  have h2 := h.2
  rcases h2 with ⟨he, hn⟩ | ⟨g, cap', cur, he, hb, _⟩
  · omega
  · simp only [Value.slice.injEq] at he
    obtain ⟨rfl, hnl, rfl⟩ := he
    exact ⟨g, rfl, hnl, hb, (h.lt (g := g) rfl).2⟩
theorem OwnS.cellAt {B : Nat} {L : List ByteArray} {g n cap : Nat} {w : World} (h : OwnS B L (.slice (some ⟨g, 0, none⟩) n cap) w) {j : Nat} (hj : j < L.length) : w.cell? ⟨g, j, none⟩ = some (.string (L.getD j ByteArray.empty)) ∧ w.frozen? ⟨g, j, none⟩ = false := by
  obtain ⟨g', he, hn, -, -⟩ := h.block (by omega)
  cases he
  subst hn
  exact ⟨(World.ownsRow.cellAt h j (by omega)).trans (cellsS_at hj), World.ownsRow.frozenAt h j⟩
theorem OwnS.put {B : Nat} {L : List ByteArray} {g n cap : Nat} {w : World} (h : OwnS B L (.slice (some ⟨g, 0, none⟩) n cap) w) (hp : 0 < L.length) (j : Nat) (c : ByteArray) : OwnS B (L.set j c) (.slice (some ⟨g, 0, none⟩) n cap) (w.setCell ⟨g, j, none⟩ (.string c)) := by
  obtain ⟨g', he, hn, -, -⟩ := h.block hp
  cases he
  subst hn
  have := (World.ownsRow.stored h j (.string c)).1
  unfold OwnS
  rw [List.length_set]
  have e : (cellsS L).set j (.string c) = cellsS (L.set j c) := by simp [cellsS, List.map_set]
  rw [← e]
  exact this
end Go.Proofs.YtjibbnknliamkaaGreatDoor
namespace Go.Proofs.YtjibbnknliamkaaGreatDoor
open Go.RowKit
set_option linter.unusedVariables false
set_option linter.unusedSimpArgs false
/-- What l[k:] is. -/
def tlS : Value → Nat → Value
  | .slice a n c, k => .slice (if c = k then a else a.map (·.add (k * 1))) (n - k) (c - k)
  | v, _ => v
theorem RdS.tl {L : List ByteArray} {v : Value} {w : World} (h : RdS L v w) (k : Nat) (hk : k ≤ L.length) : RdS (L.drop k) (tlS v k) w := by
  obtain ⟨a, cap, rfl, h1, h2, h3⟩ := h
  refine ⟨if cap = k then a else a.map (·.add (k * 1)), cap - k, by rw [List.length_drop]; rfl, by rw [List.length_drop]; omega, by omega, fun hp => ?_⟩
  rw [List.length_drop] at hp
  obtain ⟨b, off, rfl, hb, hc⟩ := h3 (by omega)
  refine ⟨b, off + k, by rw [if_neg (by omega)]; simp [Addr.add], hb, fun j hj => ?_⟩
  rw [List.length_drop] at hj
  have e : (L.drop k).getD j ByteArray.empty = L.getD (k + j) ByteArray.empty := by simp [List.getD]
  rw [e, show off + k + j = off + (k + j) by omega]
  exact hc (k + j) (by omega)
end Go.Proofs.YtjibbnknliamkaaGreatDoor
namespace Go.Proofs.YtjibbnknliamkaaGreatDoor
open Go.RowKit
set_option linter.unusedVariables false
set_option linter.unusedSimpArgs false
theorem isSz_any (S : Int) (w : World) : Calls Tryz.prog 145 #[.int .i64 S] w fun e w' => e = .returned (.bool (decide (1 ≤ S) && decide (S ≤ 32))) ∧ w = w' := by
  go_enter Tryz.func145, Tryz.ntmps145
  go_wp2
  all_goals
    go_ret
    exact ⟨ret_bool (by first | rfl | (rw [Bool.eq_iff_iff]; simp [*] <;> omega)), rfl⟩
theorem isTt_any (S : Int) (w : World) : Calls Tryz.prog 146 #[.int .i64 S] w fun e w' => e = .returned (.bool (decide (0 ≤ S) && decide (S ≤ 1099511627776))) ∧ w = w' := by
  go_enter Tryz.func146, Tryz.ntmps146
  go_wp2
  all_goals
    go_ret
    exact ⟨ret_bool (by first | rfl | (rw [Bool.eq_iff_iff]; simp [*] <;> omega)), rfl⟩
/-- The state of Validate. -/
def RvQ (W : World) (S T K : Int) (v : Value) (s : Bool) (w : World) : Prop := FqS W.heap.size S T K v s w ∧ Below W.heap.size W w
theorem RvQ.go {W : World} {S T K : Int} {v : Value} {s : Bool} {w w' : World} (h : RvQ W S T K v s w) (hb : Below w.heap.size w w') : RvQ W S T K v s w' := ⟨h.1.go hb, bgo h.2 hb⟩
theorem par3 (a b c : Bool) (h : (a && b && c) = false) : a = false ∨ (a = true ∧ b = false) ∨ (a = true ∧ b = true ∧ c = false) := by cases a <;> cases b <;> cases c <;> simp_all
set_option maxRecDepth 100000 in
set_option maxHeartbeats 4000000 in
theorem pvalQ_any (S T K : Int) (L : List Ent) (s : Bool) (a : Option Addr) (n cap : Nat) (w : World) (hr : RdE L (.slice a n cap) w) (hn : L.length ≤ 549755813888) :
    Calls Tryz.prog 109 #[.agg #[.int .i64 S, .int .i64 T, .int .i64 K, .slice a n cap, .bool s]] w fun e w' => e = .returned (.int .i64 (valQ S T K L)) ∧ Below w.heap.size w w' := by
  obtain ⟨a', cap', he⟩ := hr.shape
  simp only [Value.slice.injEq] at he
  obtain ⟨rfl, rfl, rfl⟩ := he
  have hy := hr.1
  have HR := Lib.hid hr
  clear hr
  unfold valQ
  have hz := fun w => isSz_any S w
  have ht := fun w => isTt_any T w
  have hk := fun w => isTt_any K w
  cases hp : parQ S T K with
  | false =>
    rw [if_pos rfl]
    unfold parQ at hp
    generalize (decide (1 ≤ S) && decide (S ≤ 32)) = bs at *
    generalize (decide (0 ≤ T) && decide (T ≤ 1099511627776)) = bt at *
    generalize (decide (0 ≤ K) && decide (K ≤ 1099511627776)) = bk at *
    rcases par3 _ _ _ hp with rfl | ⟨rfl, rfl⟩ | ⟨rfl, rfl, rfl⟩
    all_goals
      clear hp
      go_enter Tryz.func109, Tryz.ntmps109
      go_wp2_with (first
        | (go_at_call 145; (with_reducible refine (hz _).mono ?_); rintro e w' ⟨rfl, rfl⟩)
        | (go_at_call 146; first | ((with_reducible refine (ht _).mono ?_); rintro e w' ⟨rfl, rfl⟩) | ((with_reducible refine (hk _).mono ?_); rintro e w' ⟨rfl, rfl⟩)))
      go_ret
      exact ⟨rfl, b1 _⟩
  | true =>
    rw [if_neg (by simp)]
    obtain ⟨p1, p2, p3, p4, p5, p6⟩ := (parQ_iff S T K).1 hp
    rw [show (decide (1 ≤ S) && decide (S ≤ 32)) = true by simp; omega] at hz
    rw [show (decide (0 ≤ T) && decide (T ≤ 1099511627776)) = true by simp; omega] at ht
    rw [show (decide (0 ≤ K) && decide (K ≤ 1099511627776)) = true by simp; omega] at hk
    clear hp p1 p3 p4 p5 p6
    by_cases hl : S < L.length
    · rw [if_pos hl]
      go_enter Tryz.func109, Tryz.ntmps109
      go_wp2_with (first
        | (go_at_call 145; (with_reducible refine (hz _).mono ?_); rintro e w' ⟨rfl, rfl⟩)
        | (go_at_call 146; first | ((with_reducible refine (ht _).mono ?_); rintro e w' ⟨rfl, rfl⟩) | ((with_reducible refine (hk _).mono ?_); rintro e w' ⟨rfl, rfl⟩)))
      go_ret
      exact ⟨rfl, b1 _⟩
    · rw [if_neg hl]
      have d2 : decide (S < (L.length : Int)) = false := decide_eq_false (by omega)
      obtain ⟨V, hV⟩ : ∃ V, V = vgoQ L L.length 0 := ⟨_, rfl⟩
      rw [← hV]
      have HV := Lib.hid hV
      clear hV hl p2
      have HS0 : Hid (RvQ w S T K (.slice a L.length cap) s (w.alloc (.cells #[.int .i64 S, .int .i64 T, .int .i64 K, .slice a L.length cap, .bool s] 43))) := Lib.hid ⟨FqS.new S T K (.slice a L.length cap) s 43 w, b1 _⟩
      go_enter Tryz.func109, Tryz.ntmps109
      go_wp2_with (first
        | (go_at_call 145; (with_reducible refine (hz _).mono ?_); rintro e w' ⟨rfl, rfl⟩)
        | (go_at_call 146; first | ((with_reducible refine (ht _).mono ?_); rintro e w' ⟨rfl, rfl⟩) | ((with_reducible refine (hk _).mono ?_); rintro e w' ⟨rfl, rfl⟩)))
      clear hz ht hk d2
      go_loopw [3, 5, 31] (fun p _ i wr => ∃ j : Nat, j ≤ L.length ∧ i = .int .i64 (j : Int) ∧ p = .string (prevK L j) ∧ Hid (RvQ w S T K (.slice a L.length cap) s wr) ∧ Hid (vgoQ L (L.length - j) j = V)) (fun _ _ i _ => L.length - (intOf i).toNat)
      case atStart => exact ⟨0, by omega, rfl, rfl, HS0, Lib.hid (by rw [Nat.sub_zero]; exact HV.out.symm)⟩
      case round =>
        clear HS0 HV
        obtain ⟨j, hj, rfl, rfl, HI, HV⟩ := hrel
        by_cases hlt : j < L.length
        · have hlt2 : (j : Int) < (L.length : Int) := by omega
          have hv := HV.out
          rw [show L.length - j = (L.length - (j + 1)) + 1 by omega] at hv
          unfold vgoQ at hv
          obtain ⟨-, a1, cap1, he1, -, -, hc1⟩ := HR.out.below HI.out.2
          simp only [Value.slice.injEq, true_and] at he1
          obtain ⟨rfl, rfl⟩ := he1
          obtain ⟨b, off, rfl, hb, hcell⟩ := hc1 (by omega)
          obtain ⟨c0, c1, c2⟩ := hcell j hlt
          clear hc1 hcell
          have hx := hy.at_ j
          have HE0 := Lib.hid (fun h => errQ_prev (L := L) (j := j) h)
          have HE1 := Lib.hid (fun h => errQ_bad (L := L) (j := j) h)
          have HPS := Lib.hid (prevK_succ L j)
          generalize prevK L j = P at *
          generalize L.getD j Ent.z = X at *
          have hky := fun w => isKey_any X.k w hx.1
          obtain ⟨-, ⟨xc0, xc1⟩, xe0, xe1⟩ := hx
          have HB3 := Lib.hid (bal (HI.out.2) (.cells #[.string X.k, .int .i64 X.c, .int .i64 X.e] 64))
          have HI3 := Lib.hid (HI.out.go (b1 (.cells #[.string X.k, .int .i64 X.c, .int .i64 X.e] 64)))
          cases hK : keyB (byt X.k) with
          | false =>
            have hE : entQ X = 7 := by unfold entQ; rw [hK, if_pos rfl]
            rw [HE1.out (by rw [hE]; decide), hE, if_pos (by decide)] at hv
            subst hv
            rw [hK] at hky
            clear hE hK
            go_wp2_with (go_at_call 26; refine (hky _).mono ?_; rintro e w' ⟨rfl, rfl⟩)
            go_ret
            exact ⟨rfl, HB3.out⟩
          | true =>
            rw [hK] at hky
            by_cases hbad : X.c < 1 ∨ 1099511627776 < X.c ∨ X.e ≠ 0
            · have hE : entQ X = 5 := by unfold entQ; rw [hK, if_neg (by simp), if_pos hbad]
              rw [HE1.out (by rw [hE]; decide), hE, if_pos (by decide)] at hv
              subst hv
              clear hE hK
              have hb3 : X.c < 1 ∨ (1 ≤ X.c ∧ 1099511627776 < X.c) ∨ (1 ≤ X.c ∧ X.c ≤ 1099511627776 ∧ X.e ≠ 0) := by omega
              clear hbad
              rcases hb3 with hb3 | ⟨hb3, hb4⟩ | ⟨hb3, hb4, hb5⟩
              · go_wp2_with (go_at_call 26; refine (hky _).mono ?_; rintro e w' ⟨rfl, rfl⟩)
                go_ret
                exact ⟨rfl, HB3.out⟩
              · go_wp2_with (go_at_call 26; refine (hky _).mono ?_; rintro e w' ⟨rfl, rfl⟩)
                go_ret
                exact ⟨rfl, HB3.out⟩
              · have hb6 : (X.e == 0) = false := by simpa using hb5
                have hb7 : (X.e != 0) = true := by simpa using hb5
                clear hb5
                go_wp2_with (go_at_call 26; refine (hky _).mono ?_; rintro e w' ⟨rfl, rfl⟩)
                go_ret
                exact ⟨rfl, HB3.out⟩
            · have hE : entQ X = 0 := by unfold entQ; rw [hK, if_neg (by simp), if_neg hbad]
              rw [HE0.out hE] at hv
              have q1 : ¬ X.c < 1 := by omega
              have q2 : ¬ 1099511627776 < X.c := by omega
              have q0 : X.e = 0 := by omega
              have q3 : (X.e == 0) = true := by simpa using q0
              have q4 : (X.e != 0) = false := by simpa using q0
              clear q0
              clear hE hK hbad
              rcases lessK_tri P X.k with hl | hl | hl
              · rw [hl, if_neg (by simp)] at hv
                obtain ⟨g1, g2, g3, g4⟩ := cmp_lt hl
                have HV2 := Lib.hid hv
                clear hv hl
                go_wp2_with (go_at_call 26; refine (hky _).mono ?_; rintro e w' ⟨rfl, rfl⟩)
                exact ⟨⟨j + 1, by omega, by go_num, by rw [HPS.out], HI3, HV2⟩, by simp [intOf]; omega⟩
              · subst hl
                rw [lessK_irr, if_pos rfl, if_pos (by decide)] at hv
                subst hv
                obtain ⟨g1, g2⟩ := cmp_eq X.k
                go_wp2_with (go_at_call 26; refine (hky _).mono ?_; rintro e w' ⟨rfl, rfl⟩)
                go_ret
                exact ⟨rfl, HB3.out⟩
              · rw [lessK_asym hl, if_pos rfl, if_pos (by decide)] at hv
                subst hv
                obtain ⟨g1, g2, g3, g4⟩ := cmp_lt hl
                clear hl
                go_wp2_with (go_at_call 26; refine (hky _).mono ?_; rintro e w' ⟨rfl, rfl⟩)
                go_ret
                exact ⟨rfl, HB3.out⟩
        · obtain rfl : j = L.length := by omega
          have hv := HV.out
          rw [Nat.sub_self] at hv
          subst hv
          go_wp2
          go_ret
          exact ⟨rfl, HI.out.2⟩
end Go.Proofs.YtjibbnknliamkaaGreatDoor
