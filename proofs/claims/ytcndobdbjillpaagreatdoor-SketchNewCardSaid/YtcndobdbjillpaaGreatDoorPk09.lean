/- RkN, Find9, Join9, MerS, VtR: in one text. -/
import Derived.Test.YtcndobdbjillpaaGreatDoorPk08
import Derived.Test.YtcndobdbjillpaaGreatDoorPk07
import Derived.Test.YtcndobdbjillpaaGreatDoorPk05
import Derived.Test.YtcndobdbjillpaaGreatDoorPk00
import Derived.Test.YtcndobdbjillpaaGreatDoorPk03
import Derived.Test.YtcndobdbjillpaaGreatDoorPk02
import Derived.Test.YtcndobdbjillpaaGreatDoorPk01
import Derived.Lib.SliceRun
import Derived.Shelf.Abstract
import Derived.OneCell
import Derived.Deep.RegionHeld3
import Derived.Laws.Cover3
import Derived.Laws.FloatArith
import Derived.Deep.MidRow
import Derived.Shelf.Strconv.Itoa0
import Derived.Deep.RegionLaw
namespace Go.Proofs.YtcndobdbjillpaaGreatDoor
open Go.RowKit
set_option linter.unusedVariables false
set_option linter.unusedSimpArgs false
structure RK where
  S : Int
  T : Int
  K : Int
  L : List (List ByteArray)
  s : Bool
def RK.none : RK := ⟨0, 0, 0, [], false⟩
/-- What is wrong with a key behind p. -/
def keyE (p x : ByteArray) : Int := if keyB (byt x) = false then 7 else if lessK x p = true then 19 else 0
def lvgo : ByteArray → List ByteArray → Int
  | _, [] => 0
  | p, x :: l => if keyE p x ≠ 0 then keyE p x else lvgo x l
/-- What is wrong with a level. -/
def lvlE (S : Int) (l : List ByteArray) : Int := if S ≤ (l.length : Int) then 11 else lvgo ⟨#[]⟩ l
def lvsE (S : Int) : List (List ByteArray) → Int
  | [] => 0
  | l :: L => if lvlE S l ≠ 0 then lvlE S l else lvsE S L
/-- How many insertions the levels from i on stand for. -/
def insN : Nat → List (List ByteArray) → Nat
  | _, [] => 0
  | i, l :: L => l.length * 2 ^ i + insN (i + 1) L
def szR (S : Int) : Bool := decide (2 ≤ S) && decide (S ≤ 32) && decide (S % 2 = 0)
def ttR (T : Int) : Bool := decide (0 ≤ T) && decide (T ≤ 1099511627776)
def parR (S T K : Int) : Bool := szR S && ttR T && ttR K
/-- The last level is empty. -/
def lastE (L : List (List ByteArray)) : Bool := decide (0 < L.length) && decide ((L.getD (L.length - 1) []).length = 0)
def valR (S T K : Int) (L : List (List ByteArray)) : Int :=
  if parR S T K = false then 5 else if 41 < L.length then 11 else if lvsE S L ≠ 0 then lvsE S L else if lastE L = true then 18 else if (insN 0 L : Int) ≠ T then 17 else 0
/-- A level in order. -/
def GdL (S : Int) (l : List ByteArray) : Prop := (l.length : Int) < S ∧ (∀ x ∈ l, keyB (byt x) = true) ∧ Asc l
theorem keyE_cases (p x : ByteArray) : keyE p x = 0 ∨ keyE p x = 7 ∨ keyE p x = 19 := by
  unfold keyE
  split
  · exact .inr (.inl rfl)
  · split
    · exact .inr (.inr rfl)
    · exact .inl rfl
theorem keyE_zero {p x : ByteArray} (h : keyE p x = 0) : keyB (byt x) = true ∧ lessK x p = false := by
  unfold keyE at h
  cases hk : keyB (byt x) with
  | false => rw [hk, if_pos rfl] at h; cases h
  | true =>
    rw [hk, if_neg (by simp)] at h
    cases hl : lessK x p with
    | true => rw [hl, if_pos rfl] at h; cases h
    | false => exact ⟨rfl, rfl⟩
theorem lvgo_zero : ∀ {l : List ByteArray} {p : ByteArray}, lvgo p l = 0 → (∀ x ∈ l, keyB (byt x) = true) ∧ Asc l ∧ ∀ x ∈ l, lessK x p = false
  | [], _, _ => ⟨by simp, List.Pairwise.nil, by simp⟩
  | x :: l, p, h => by
    unfold lvgo at h
    by_cases he : keyE p x = 0
    · rw [if_neg (by simpa using he)] at h
      obtain ⟨h1, h2, h3⟩ := lvgo_zero h
      have hk := keyE_zero he
      refine ⟨fun y hy => ?_, List.pairwise_cons.2 ⟨h3, h2⟩, fun y hy => ?_⟩
      · rcases List.mem_cons.1 hy with rfl | hy
        · exact hk.1
        · exact h1 y hy
      · rcases List.mem_cons.1 hy with rfl | hy
        · exact hk.2
        · exact leK_trans hk.2 (h3 y hy)
    · rw [if_pos he] at h
      exact absurd h he
theorem lvlE_zero {S : Int} {l : List ByteArray} (h : lvlE S l = 0) : GdL S l := by
  unfold lvlE at h
  by_cases hs : S ≤ (l.length : Int)
  · rw [if_pos hs] at h; cases h
  · rw [if_neg hs] at h
    have h1 := lvgo_zero h
    exact ⟨by omega, h1.1, h1.2.1⟩
theorem lvsE_zero {S : Int} : ∀ {L : List (List ByteArray)}, lvsE S L = 0 → ∀ l ∈ L, GdL S l
  | [], _ => by simp
  | l :: L, h => by
    unfold lvsE at h
    by_cases he : lvlE S l = 0
    · rw [if_neg (by simpa using he)] at h
      intro m hm
      rcases List.mem_cons.1 hm with rfl | hm
      · exact lvlE_zero he
      · exact lvsE_zero h m hm
    · rw [if_pos he] at h
      exact absurd h he
theorem szR_iff (S : Int) : szR S = true ↔ 2 ≤ S ∧ S ≤ 32 ∧ S % 2 = 0 := by unfold szR; simp [and_assoc]
theorem ttR_iff (T : Int) : ttR T = true ↔ 0 ≤ T ∧ T ≤ 1099511627776 := by unfold ttR; simp
theorem parR_iff (S T K : Int) : parR S T K = true ↔ (2 ≤ S ∧ S ≤ 32 ∧ S % 2 = 0) ∧ (0 ≤ T ∧ T ≤ 1099511627776) ∧ (0 ≤ K ∧ K ≤ 1099511627776) := by
  unfold parR
  rw [Bool.and_eq_true, Bool.and_eq_true, szR_iff, ttR_iff, ttR_iff, and_assoc]
theorem lvgo_bd : ∀ (l : List ByteArray) (p : ByteArray), 0 ≤ lvgo p l ∧ lvgo p l ≤ 19
  | [], _ => by unfold lvgo; omega
  | x :: l, p => by
    unfold lvgo
    split
    · rcases keyE_cases p x with h | h | h <;> omega
    · exact lvgo_bd l x
theorem lvlE_bd (S : Int) (l : List ByteArray) : 0 ≤ lvlE S l ∧ lvlE S l ≤ 19 := by
  unfold lvlE
  have := lvgo_bd l ⟨#[]⟩
  split <;> omega
theorem insN_app : ∀ (L M : List (List ByteArray)) (i : Nat), insN i (L ++ M) = insN i L + insN (i + L.length) M
  | [], M, i => by simp [insN]
  | l :: L, M, i => by
    have := insN_app L M (i + 1)
    simp only [List.cons_append, insN, this, List.length_cons]
    rw [show i + 1 + L.length = i + (L.length + 1) by omega]
    omega
theorem insN_bd : ∀ (L : List (List ByteArray)) (i m : Nat), (∀ l ∈ L, l.length ≤ m) → insN i L + m * 2 ^ i ≤ m * 2 ^ (i + L.length)
  | [], i, m, _ => by simp [insN]
  | l :: L, i, m, h => by
    have h1 := insN_bd L (i + 1) m (fun x hx => h x (by simp [hx]))
    have h2 := Nat.mul_le_mul_right (2 ^ i) (h l (by simp))
    simp only [insN, List.length_cons]
    rw [show i + (L.length + 1) = i + 1 + L.length by omega]
    have e : m * 2 ^ (i + 1) = m * 2 ^ i + m * 2 ^ i := by rw [Nat.pow_succ, ← Nat.mul_assoc]; omega
    omega
theorem getD_mem {α : Type} {L : List α} {d : α} {k : Nat} (h : k < L.length) : L.getD k d ∈ L := by
  rw [show L.getD k d = L[k] by simp [List.getD, h]]
  exact List.getElem_mem h
theorem drop_getD {α : Type} {L : List α} {d : α} {k : Nat} (h : k < L.length) : L.drop k = L.getD k d :: L.drop (k + 1) := by
  rw [List.drop_eq_getElem_cons h]
  simp [List.getD, h]
theorem take_getD {α : Type} {L : List α} {d : α} {k : Nat} (h : k < L.length) : L.take (k + 1) = L.take k ++ [L.getD k d] := by
  rw [List.take_succ_eq_append_getElem h]
  simp [List.getD, h]
theorem insN_take {L : List (List ByteArray)} {k : Nat} (h : k < L.length) : insN 0 (L.take (k + 1)) = insN 0 (L.take k) + (L.getD k []).length * 2 ^ k := by
  rw [take_getD (d := []) h, insN_app]
  simp [insN, List.length_take, Nat.min_eq_left (Nat.le_of_lt h)]
end Go.Proofs.YtcndobdbjillpaaGreatDoor
namespace Go.Proofs.YtcndobdbjillpaaGreatDoor
open Go.RowKit
set_option linter.unusedVariables false
set_option linter.unusedSimpArgs false
/-- A struct of three cells: an entry that can be written. -/
def En3 (g : Nat) (w : World) : Prop :=
  (w.cell? ⟨g, 0, none⟩ = some (.string ⟨#[]⟩) ∧ w.cell? ⟨g, 1, none⟩ = some (.int .i64 0) ∧ w.cell? ⟨g, 2, none⟩ = some (.int .i64 0)) ∧ w.frozen? ⟨g, 0, none⟩ = false ∧ w.frozen? ⟨g, 1, none⟩ = false ∧ w.frozen? ⟨g, 2, none⟩ = false
theorem En3.keep {g : Nat} {w w' : World} (h : En3 g w) (hb : w'.heap[g]? = w.heap[g]?) : En3 g w' := by
  obtain ⟨⟨h0, h1, h2⟩, f0, f1, f2⟩ := h
  have hc : ∀ o, w'.cell? ⟨g, o, none⟩ = w.cell? ⟨g, o, none⟩ := fun o => World.cell?_of_block (w := w) (a := ⟨g, o, none⟩) hb
  have hf : ∀ o, w'.frozen? ⟨g, o, none⟩ = w.frozen? ⟨g, o, none⟩ := fun o => World.frozen?_of_block (w := w) (a := ⟨g, o, none⟩) hb
  exact ⟨⟨(hc _).trans h0, (hc _).trans h1, (hc _).trans h2⟩, (hf _).trans f0, (hf _).trans f1, (hf _).trans f2⟩
theorem En3.lt {g : Nat} {w : World} (h : En3 g w) : g < w.heap.size := by
  have h0 := h.1.1
  unfold World.cell? at h0
  cases hb : w.heap[g]? with
  | none => simp [hb] at h0
  | some o => exact (Array.getElem?_eq_some_iff.1 hb).1
end Go.Proofs.YtcndobdbjillpaaGreatDoor
namespace Go.Proofs.YtcndobdbjillpaaGreatDoor
open Go.RowKit
set_option linter.unusedVariables false
set_option linter.unusedSimpArgs false
/-- Of the blocks that there were, block g alone has turned. -/
def One (g : Nat) (w w' : World) : Prop := Below g w w' ∧ w.heap.size ≤ w'.heap.size ∧ ∀ b, b < w.heap.size → b ≠ g → w'.heap[b]? = w.heap[b]?
theorem One.refl (g : Nat) (w : World) : One g w w := ⟨Below.refl _ _, Nat.le_refl _, fun _ _ _ => rfl⟩
theorem One.trans {g : Nat} {w u v : World} (h : One g w u) (k : One g u v) : One g w v := ⟨h.1.trans k.1, Nat.le_trans h.2.1 k.2.1, fun b hb hn => (k.2.2 b (Nat.lt_of_lt_of_le hb h.2.1) hn).trans (h.2.2 b hb hn)⟩
theorem One.set (g o : Nat) (w : World) (v : Value) : One g w (w.setCell ⟨g, o, none⟩ v) := ⟨(Below.refl g w).setCell (p := ⟨g, o, none⟩) (Nat.le_refl _) v, by simp, fun b _ hn => Below.heap_setCell _ ⟨g, o, none⟩ _ _ hn⟩
theorem One.below {g B : Nat} {w w' : World} (h : One g w w') (hB : B ≤ g) : Below B w w' := h.1.mono hB
theorem At3.keep {x : Ent} {b o : Nat} {w w' : World} (h : At3 x b o w) (hb : w'.heap[b]? = w.heap[b]?) : At3 x b o w' :=
  ⟨(World.cell?_of_block (w := w) (a := ⟨b, o, none⟩) hb).trans h.1, (World.cell?_of_block (w := w) (a := ⟨b, o + 1, none⟩) hb).trans h.2.1, (World.cell?_of_block (w := w) (a := ⟨b, o + 2, none⟩) hb).trans h.2.2⟩
end Go.Proofs.YtcndobdbjillpaaGreatDoor
namespace Go.Proofs.YtcndobdbjillpaaGreatDoor
open Go.RowKit
set_option linter.unusedVariables false
set_option linter.unusedSimpArgs false
section
variable {W : World} {S T : Int} {u : Value} {s : Bool} {S' T' : Int} {u' : Value} {s' : Bool} {w w' : World}
end
section
variable {W : World} {S T : Int} {u : Value} {s : Bool} {S' T' : Int} {u' : Value} {s' : Bool} {L M : List Ent} {la lb : Int} {gs g9 g10 b9 b10 : Nat} {r : Bool} {w w' : World}
end
section
variable {W : World} {S T : Int} {u : Value} {s : Bool} {S' T' : Int} {u' : Value} {s' : Bool} {L M : List Ent} {la lb : Int} {gs g9 g10 b9 b10 : Nat} {r : Bool} {w w' : World} {l : List Nat}
end
theorem At3.new (x : Ent) (w : World) : At3 x w.heap.size 0 (w.alloc (.cells #[.string x.k, .int .i64 x.c, .int .i64 x.e] 140)) := ⟨by go_simp, by go_simp, by go_simp⟩
theorem At3.lt {x : Ent} {b o : Nat} {w : World} (h : At3 x b o w) : b < w.heap.size := by
  have h0 := h.1
  unfold World.cell? at h0
  cases hb : w.heap[b]? with
  | none => simp [hb] at h0
  | some o => exact (Array.getElem?_eq_some_iff.1 hb).1
theorem At3.go {x : Ent} {b o : Nat} {w w' : World} (h : At3 x b o w) (hb : Below w.heap.size w w') : At3 x b o w' := h.below hb h.lt
theorem At3.zero {x : Ent} {b : Nat} {w : World} (h : At3 x b 0 w) : w.cell? ⟨b, 0, none⟩ = some (.string x.k) ∧ w.cell? ⟨b, 1, none⟩ = some (.int .i64 x.c) ∧ w.cell? ⟨b, 2, none⟩ = some (.int .i64 x.e) := h
theorem OwnE.turn {B g : Nat} {L : List Ent} {v : Value} {w w' : World} (h : OwnE B L v w) (ho : One g w w') (hg : g < B) : OwnE B L v w' := by
  obtain ⟨hy, h1, h2⟩ := h
  refine ⟨hy, h1, ?_⟩
  rcases h2 with h2 | ⟨b, cap, cur, rfl, hb', hg', r⟩
  · exact .inl h2
  · exact .inr ⟨b, cap, cur, rfl, hb', (ho.2.2 b (Array.getElem?_eq_some_iff.1 hg').1 (by omega)).trans hg', r⟩
end Go.Proofs.YtcndobdbjillpaaGreatDoor
namespace Go.Proofs.YtcndobdbjillpaaGreatDoor
open Go.RowKit
set_option linter.unusedVariables false
set_option linter.unusedSimpArgs false
theorem row_apart {w : World} {B B' : Nat} {t t' : TypeId} {m m' : Nat} {v v' : Value} {n n' : Nat} {c c' : List Value} (h : w.ownsRow B t m v n c) (h' : w.ownsRow B' t' m' v' n' c') (ht : t ≠ t') {g : Nat} (hg : v.ownBlock = some g) : v'.ownBlock ≠ some g := by
  intro e
  rcases h.2 with ⟨rfl, _⟩ | ⟨g1, cap, cur, rfl, _, hc, _⟩
  · cases hg
  · injection hg with hg
    have hg : g1 = g := hg
    subst hg
    rcases h'.2 with ⟨rfl, _⟩ | ⟨g2, cap2, cur2, rfl, _, hc2, _⟩
    · cases e
    · injection e with e
      have e : g2 = g1 := e
      subst e
      rw [hc] at hc2
      injection hc2 with hc2
      injection hc2 with _ h3 _
      exact ht h3
theorem row_keep {w w' : World} {B : Nat} {t : TypeId} {m : Nat} {v : Value} {n : Nat} {c : List Value} (h : w.ownsRow B t m v n c) (hb : ∀ g, g < w.heap.size → v.ownBlock = some g → w'.heap[g]? = w.heap[g]?) : w'.ownsRow B t m v n c := by
  refine ⟨h.1, ?_⟩
  rcases h.2 with h2 | ⟨g1, cap, cur, rfl, h3, hc, r⟩
  · exact .inl h2
  · exact .inr ⟨g1, cap, cur, rfl, h3, (hb g1 (Array.getElem?_eq_some_iff.1 hc).1 rfl).trans hc, r⟩
/-- Just the own row of v has turned. -/
def Lone (v : Value) (w w' : World) : Prop := w.heap.size ≤ w'.heap.size ∧ ∀ g, g < w.heap.size → v.ownBlock ≠ some g → w'.heap[g]? = w.heap[g]?
theorem row_lone {w w' : World} {B B' : Nat} {t t' : TypeId} {m m' : Nat} {v v' : Value} {n n' : Nat} {c c' : List Value} (h : w.ownsRow B t m v n c) (h' : w.ownsRow B' t' m' v' n' c') (ht : t ≠ t') (hl : Lone v' w w') : w'.ownsRow B t m v n c :=
  row_keep h (fun g hg e => hl.2 g hg (row_apart h h' ht e))
theorem Lone.set {a : Option Addr} {n cap g : Nat} (w : World) (j : Nat) (x : Value) (ha : a = some ⟨g, 0, none⟩) : Lone (.slice a n cap) w (w.setCell ⟨g, j, none⟩ x) := by
  subst ha
  exact ⟨by simp, fun k hk hne => Below.heap_setCell _ ⟨g, j, none⟩ _ _ (fun e => hne (by rw [e]; rfl))⟩
section
variable {W : World} {g : Nat} {c d : TP} {v : Value} {Ks Ks' : List ByteArray} {vK vK' : Value} {Ws Ws' : List Int} {vW vW' : Value} {w w' : World}
end
theorem OwnS.len {B : Nat} {L : List ByteArray} {a : Option Addr} {n cap : Nat} {w : World} (h : OwnS B L (.slice a n cap) w) : n = L.length := by
  obtain ⟨a', cap', he, _⟩ := h.rd
  simp only [Value.slice.injEq] at he
  exact he.2.1
theorem OwnI.len {B : Nat} {L : List Int} {a : Option Addr} {n cap : Nat} {w : World} (h : OwnI B L (.slice a n cap) w) : n = L.length := by
  obtain ⟨a', cap', he⟩ := h.rd.shape
  simp only [Value.slice.injEq] at he
  exact he.2.1
theorem OwnS.at_ {B : Nat} {L : List ByteArray} {g n cap : Nat} {w : World} (h : OwnS B L (.slice (some ⟨g, 0, none⟩) n cap) w) {j : Nat} (hj : j < L.length) : w.cell? ⟨g, j, none⟩ = some (.string (L.getD j ByteArray.empty)) := by
  have e := h.len
  subst e
  exact (World.ownsRow.cellAt h j (by omega)).trans (cellsS_at hj)
theorem En3.new (w : World) : En3 w.heap.size (w.alloc (.cells #[.string ⟨#[]⟩, .int .i64 0, .int .i64 0] 140)) := ⟨⟨by go_simp, by go_simp, by go_simp⟩, by go_simp, by go_simp, by go_simp⟩
end Go.Proofs.YtcndobdbjillpaaGreatDoor
