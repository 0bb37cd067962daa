/- FqO, FqP, StrRow, RkO, RkN, Find9, Join9, MerS: in one text. -/
import Derived.Test.YtjibbnknliamkaaGreatDoorPk06
import Derived.Test.YtjibbnknliamkaaGreatDoorPk05
import Derived.Test.YtjibbnknliamkaaGreatDoorPk02
import Derived.Test.YtjibbnknliamkaaGreatDoorPk01
import Derived.Test.YtjibbnknliamkaaGreatDoorPk00
import Derived.Test.YtjibbnknliamkaaGreatDoorPk04
import Derived.Test.YtjibbnknliamkaaGreatDoorPk03
import Derived.Test.YtjibbnknliamkaaGreatDoorProg
import Derived.Laws.Cover1
import Derived.Deep.RegionHeld3
import Derived.Laws.Cover3
import Derived.Laws.FloatArith
import Derived.Lib.SliceRun
import Derived.Deep.MidRow
import Derived.Shelf.Strconv.Itoa0
import Derived.Deep.RegionLaw
import Derived.OneCell
import Derived.WalkKit
import Derived.ProofKit
import Derived.Handy
import Derived.Shelf.Small.Bits
import Derived.Shelf.Bits.Mul64
import Derived.Shelf.Spec.TrailingZeros
import Derived.Lib.Hide
import Derived.Lib.Split
import Derived.Shelf.Abstract
namespace Go.Proofs.YtjibbnknliamkaaGreatDoor
open Go.RowKit
set_option linter.unusedVariables false
set_option linter.unusedSimpArgs false
theorem u8_triQ (a b : UInt8) : a < b ∨ a = b ∨ b < a := by
  by_cases h : a < b
  · exact .inl h
  · by_cases h2 : b < a
    · exact .inr (.inr h2)
    · exact .inr (.inl (UInt8.le_antisymm (UInt8.not_lt.1 h2) (UInt8.not_lt.1 h)))
theorem lessQ_cons (a b : UInt8) (xs ys : List UInt8) : Op.bytesLess (a :: xs) (b :: ys) = true ↔ a < b ∨ (a = b ∧ Op.bytesLess xs ys = true) := by
  conv => lhs; unfold Op.bytesLess
  simp
theorem lessQ_tri : ∀ a b : List UInt8, Op.bytesLess a b = true ∨ a = b ∨ Op.bytesLess b a = true
  | [], [] => .inr (.inl rfl)
  | [], _ :: _ => .inl (by simp [Op.bytesLess])
  | _ :: _, [] => .inr (.inr (by simp [Op.bytesLess]))
  | a :: xs, b :: ys => by
    rw [lessQ_cons, lessQ_cons]
    rcases u8_triQ a b with h | rfl | h
    · exact .inl (.inl h)
    · rcases lessQ_tri xs ys with h | rfl | h
      · exact .inl (.inr ⟨rfl, h⟩)
      · exact .inr (.inl rfl)
      · exact .inr (.inr (.inr ⟨rfl, h⟩))
    · exact .inr (.inr (.inl h))
theorem lessQ_trans : ∀ {a b c : List UInt8}, Op.bytesLess a b = true → Op.bytesLess b c = true → Op.bytesLess a c = true
  | [], _, [], h1, h2 => by
    rename_i b
    cases b <;> simp [Op.bytesLess] at h2
  | [], _, _ :: _, _, _ => by simp [Op.bytesLess]
  | a :: xs, [], _, h1, _ => by simp [Op.bytesLess] at h1
  | a :: xs, b :: ys, [], _, h2 => by simp [Op.bytesLess] at h2
  | a :: xs, b :: ys, c :: zs, h1, h2 => by
    rw [lessQ_cons] at h1 h2 ⊢
    rcases h1 with h1 | ⟨rfl, h1⟩
    · rcases h2 with h2 | ⟨rfl, h2⟩
      · exact .inl (UInt8.lt_trans h1 h2)
      · exact .inl h1
    · rcases h2 with h2 | ⟨rfl, h2⟩
      · exact .inl h2
      · exact .inr ⟨rfl, lessQ_trans h1 h2⟩
theorem lessQ_irr : ∀ a : List UInt8, Op.bytesLess a a = false
  | [] => by simp [Op.bytesLess]
  | a :: xs => by
    cases h : Op.bytesLess (a :: xs) (a :: xs) with
    | false => rfl
    | true =>
      rcases (lessQ_cons a a xs xs).1 h with h | ⟨_, h⟩
      · exact absurd h (UInt8.lt_irrefl a)
      · rw [lessQ_irr xs] at h; cases h
theorem toL_inj {a b : ByteArray} (h : a.toList = b.toList) : a = b := by
  rw [Lib.toList_data, Lib.toList_data] at h
  exact data_inj h
theorem lessK_tri (a b : ByteArray) : lessK a b = true ∨ a = b ∨ lessK b a = true := by
  unfold lessK
  rcases lessQ_tri a.toList b.toList with h | h | h
  · exact .inl h
  · exact .inr (.inl (toL_inj h))
  · exact .inr (.inr h)
theorem lessK_trans {a b c : ByteArray} (h : lessK a b = true) (k : lessK b c = true) : lessK a c = true := lessQ_trans h k
theorem lessK_irr (a : ByteArray) : lessK a a = false := lessQ_irr _
theorem lessK_asym {a b : ByteArray} (h : lessK a b = true) : lessK b a = false := by
  cases h2 : lessK b a with
  | false => rfl
  | true => have := lessK_trans h h2; rw [lessK_irr] at this; cases this
theorem lessK_ne {a b : ByteArray} (h : lessK a b = true) : sameK a b = false := by
  cases h2 : sameK a b with
  | false => rfl
  | true =>
    have := (sameK_iff a b).1 h2
    subst this
    rw [lessK_irr] at h
    cases h
theorem lessK_ne' {a b : ByteArray} (h : lessK a b = true) : sameK b a = false := by rw [sameK_comm]; exact lessK_ne h
/-- a < b; a = b; b < a: what Go's comparisons of strings give. -/
theorem cmp_lt {a b : ByteArray} (h : lessK a b = true) : Op.bytesLess a.toList b.toList = true ∧ (a.toList == b.toList) = false ∧ Op.bytesLess b.toList a.toList = false ∧ (b.toList == a.toList) = false := ⟨h, lessK_ne h, lessK_asym h, lessK_ne' h⟩
theorem cmp_eq (a : ByteArray) : Op.bytesLess a.toList a.toList = false ∧ (a.toList == a.toList) = true := ⟨lessK_irr a, by simp⟩
theorem lessK_empty {b : ByteArray} (h : keyB (byt b) = true) : lessK ⟨#[]⟩ b = true := by
  have hs : 0 < b.size := by
    unfold keyB at h
    rw [byt_len] at h
    simp at h
    omega
  unfold lessK
  have h2 := str_ne hs
  cases hb : b.toList with
  | nil => rw [hb] at h2; cases h2
  | cons x xs => rw [Lib.toList_data]; rfl
/-- The key ahead of position j. -/
def prevK (L : List Ent) (j : Nat) : ByteArray := if j = 0 then ⟨#[]⟩ else (L.getD (j - 1) Ent.z).k
theorem prevK_zero (L : List Ent) : prevK L 0 = ⟨#[]⟩ := rfl
theorem prevK_succ (L : List Ent) (j : Nat) : prevK L (j + 1) = (L.getD j Ent.z).k := by unfold prevK; rw [if_neg (by omega), Nat.add_sub_cancel]
theorem errQ_prev {L : List Ent} {j : Nat} (he : entQ (L.getD j Ent.z) = 0) : errQ L j = if lessK (prevK L j) (L.getD j Ent.z).k = false then 19 else 0 := by
  unfold errQ
  rw [if_neg (by simpa using he)]
  cases j with
  | zero =>
    rw [prevK_zero, lessK_empty (entQ_zero he).1, if_neg (by simp), if_neg (by simp)]
  | succ j =>
    rw [prevK_succ, Nat.add_sub_cancel]
    simp
theorem errQ_bad {L : List Ent} {j : Nat} (he : entQ (L.getD j Ent.z) ≠ 0) : errQ L j = entQ (L.getD j Ent.z) := by
  unfold errQ
  rw [if_pos he]
end Go.Proofs.YtjibbnknliamkaaGreatDoor
namespace Go.Proofs.YtjibbnknliamkaaGreatDoor
open Go.RowKit
set_option linter.unusedVariables false
set_option linter.unusedSimpArgs false
def newQE (S : Int) : Int := if S < 1 ∨ 32 < S then 5 else 0
def newQ (S : Int) : FQ := if S < 1 ∨ 32 < S then FQ.none else ⟨S, 0, 0, [], false⟩
end Go.Proofs.YtjibbnknliamkaaGreatDoor
namespace Go.Proofs.YtjibbnknliamkaaGreatDoor
open Go.RowKit
set_option linter.unusedVariables false
set_option linter.unusedSimpArgs false
def cellsS (L : List ByteArray) : List Value := L.map Value.string
theorem cellsS_at {L : List ByteArray} {j : Nat} (h : j < L.length) : (cellsS L)[j]? = some (.string (L.getD j ByteArray.empty)) := by simp [cellsS, List.getD, h]
def OwnS (B : Nat) (L : List ByteArray) (v : Value) (w : World) : Prop := w.ownsRow B 9 1 v L.length (cellsS L)
def RdS (L : List ByteArray) (v : Value) (w : World) : Prop :=
  ∃ a cap, v = .slice a L.length cap ∧ L.length ≤ cap ∧ cap ≤ maxLen ∧ (0 < L.length → ∃ b off, a = some ⟨b, off, none⟩ ∧ b < w.heap.size ∧ ∀ j, j < L.length → w.cell? ⟨b, off + j, none⟩ = some (.string (L.getD j ByteArray.empty)))
theorem RdS.below {L : List ByteArray} {v : Value} {w w' : World} (h : RdS L v w) (hb : Below w.heap.size w w') : RdS L v w' := by
  obtain ⟨a, cap, rfl, h1, h2, h3⟩ := h
  refine ⟨a, cap, rfl, h1, h2, fun hp => ?_⟩
  obtain ⟨b, off, rfl, hlt, hc⟩ := h3 hp
  exact ⟨b, off, rfl, Nat.lt_of_lt_of_le hlt hb.size, fun j hj => (hb.cell (p := ⟨b, off + j, none⟩) hlt).trans (hc j hj)⟩
theorem OwnS.rd {B : Nat} {L : List ByteArray} {v : Value} {w : World} (ho : OwnS B L v w) : RdS L v w := by
  have hl := World.ownsRow.lt ho
  rcases ho.2 with ⟨rfl, hn⟩ | ⟨g, cap, cur, rfl, hb, _, h1, h2, _⟩
  · exact ⟨none, 0, by rw [hn], by omega, by simp [maxLen], fun hp => by omega⟩
  · exact ⟨some ⟨g, 0, none⟩, cap, rfl, h1, h2, fun hp => ⟨g, 0, rfl, (hl g rfl).2, fun j hj => by
      rw [Nat.zero_add]; exact (World.ownsRow.cellAt ho j (by omega)).trans (cellsS_at hj)⟩⟩
theorem OwnS.alloc {B : Nat} {L : List ByteArray} {v : Value} {w : World} (h : OwnS B L v w) (o : Obj) : OwnS B L v (w.alloc o) := World.ownsRow.alloc h o
theorem OwnS.below {B : Nat} {L : List ByteArray} {v : Value} {w w' : World} (h : OwnS B L v w) (hb : Below w.heap.size w w') : OwnS B L v w' := by
  obtain ⟨h1, h2⟩ := h
  refine ⟨h1, ?_⟩
  rcases h2 with h2 | ⟨g, cap, cur, rfl, hb', hg, r⟩
  · exact .inl h2
  · exact .inr ⟨g, cap, cur, rfl, hb', (hb.block g (Array.getElem?_eq_some_iff.1 hg).1).trans hg, r⟩
theorem OwnS.mono {B B' : Nat} {L : List ByteArray} {v : Value} {w : World} (h : OwnS B L v w) (hB : B' ≤ B) : OwnS B' L v w := by
  obtain ⟨h1, h2⟩ := h
  refine ⟨h1, ?_⟩
  rcases h2 with h2 | ⟨g, cap, cur, rfl, hb, r⟩
  · exact .inl h2
  · exact .inr ⟨g, cap, cur, rfl, Nat.le_trans hB hb, r⟩
theorem OwnS.empty (B : Nat) (w : World) : OwnS B [] (.slice none 0 0) w := World.ownsRow_nil _ _ _ _
theorem OwnS.drewN {B : Nat} {L : List ByteArray} {v : Value} {w : World} (h : OwnS B L v w) (n : Nat) : OwnS B L v (w.drewN n) := h
/-- A whole new row. -/
theorem RdS.row (L : List ByteArray) (w : World) (hm : L.length ≤ maxLen) : RdS L (.slice (some ⟨w.heap.size, 0, none⟩) L.length L.length) (w.alloc (.cells (L.map Value.string).toArray 9)) := by
  refine ⟨_, _, rfl, Nat.le_refl _, hm, fun hp => ⟨w.heap.size, 0, rfl, by simp, fun j hj => ?_⟩⟩
  rw [Nat.zero_add, cell_of_row _ w.heap.size j (L.map Value.string).toArray 9 (0, 0) (Go.heap_alloc_new w _), List.getElem?_toArray]
  exact cellsS_at hj
section
variable {w : World}
end
end Go.Proofs.YtjibbnknliamkaaGreatDoor
namespace Go.Proofs.YtjibbnknliamkaaGreatDoor
open Go.RowKit
set_option linter.unusedVariables false
set_option linter.unusedSimpArgs false
theorem leK_trans {a b c : ByteArray} (h : lessK b a = false) (k : lessK c b = false) : lessK c a = false := by
  cases hc : lessK c a with
  | false => rfl
  | true =>
    rcases lessK_tri a b with h1 | h1 | h1
    · rw [lessK_trans hc h1] at k; cases k
    · subst h1; rw [hc] at k; cases k
    · rw [h1] at h; cases h
/-- No string is less than one ahead of it. -/
def Asc (L : List ByteArray) : Prop := L.Pairwise (fun x y => lessK y x = false)
theorem Asc.at_ {L : List ByteArray} (h : Asc L) {i j : Nat} (hij : i ≤ j) (hj : j < L.length) : lessK (L.getD j ByteArray.empty) (L.getD i ByteArray.empty) = false := by
  rw [show L.getD i ByteArray.empty = L[i]'(by omega) by simp [List.getD, show i < L.length by omega], show L.getD j ByteArray.empty = L[j] by simp [List.getD, hj]]
  rcases Nat.lt_or_ge i j with h1 | h1
  · exact List.pairwise_iff_getElem.1 h i j (by omega) hj h1
  · obtain rfl : i = j := by omega
    exact lessK_irr _
end Go.Proofs.YtjibbnknliamkaaGreatDoor
namespace Go.Proofs.YtjibbnknliamkaaGreatDoor
open Go.RowKit
set_option linter.unusedVariables false
set_option linter.unusedSimpArgs false
structure RK where
  S : Int
  T : Int
  K : Int
  L : List (List ByteArray)
  s : Bool
def RK.none : RK := ⟨0, 0, 0, [], false⟩
/-- What is wrong with a key behind p. -/
def keyE (p x : ByteArray) : Int := if keyB (byt x) = false then 7 else if lessK x p = true then 19 else 0
def lvgo : ByteArray → List ByteArray → Int
  | _, [] => 0
  | p, x :: l => if keyE p x ≠ 0 then keyE p x else lvgo x l
/-- What is wrong with a level. -/
def lvlE (S : Int) (l : List ByteArray) : Int := if S ≤ (l.length : Int) then 11 else lvgo ⟨#[]⟩ l
def lvsE (S : Int) : List (List ByteArray) → Int
  | [] => 0
  | l :: L => if lvlE S l ≠ 0 then lvlE S l else lvsE S L
/-- How many insertions the levels from i on stand for. -/
def insN : Nat → List (List ByteArray) → Nat
  | _, [] => 0
  | i, l :: L => l.length * 2 ^ i + insN (i + 1) L
def szR (S : Int) : Bool := decide (2 ≤ S) && decide (S ≤ 32) && decide (S % 2 = 0)
def ttR (T : Int) : Bool := decide (0 ≤ T) && decide (T ≤ 1099511627776)
def parR (S T K : Int) : Bool := szR S && ttR T && ttR K
/-- The last level is empty. -/
def lastE (L : List (List ByteArray)) : Bool := decide (0 < L.length) && decide ((L.getD (L.length - 1) []).length = 0)
def valR (S T K : Int) (L : List (List ByteArray)) : Int :=
  if parR S T K = false then 5 else if 41 < L.length then 11 else if lvsE S L ≠ 0 then lvsE S L else if lastE L = true then 18 else if (insN 0 L : Int) ≠ T then 17 else 0
/-- A level in order. -/
def GdL (S : Int) (l : List ByteArray) : Prop := (l.length : Int) < S ∧ (∀ x ∈ l, keyB (byt x) = true) ∧ Asc l
theorem keyE_cases (p x : ByteArray) : keyE p x = 0 ∨ keyE p x = 7 ∨ keyE p x = 19 := by
  unfold keyE
  split
  · exact .inr (.inl rfl)
  · split
    · exact .inr (.inr rfl)
    · exact .inl rfl
theorem keyE_zero {p x : ByteArray} (h : keyE p x = 0) : keyB (byt x) = true ∧ lessK x p = false := by
  unfold keyE at h
  cases hk : keyB (byt x) with
  | false => rw [hk, if_pos rfl] at h; cases h
  | true =>
    rw [hk, if_neg (by simp)] at h
    cases hl : lessK x p with
    | true => rw [hl, if_pos rfl] at h; cases h
    | false => exact ⟨rfl, rfl⟩
theorem lvgo_zero : ∀ {l : List ByteArray} {p : ByteArray}, lvgo p l = 0 → (∀ x ∈ l, keyB (byt x) = true) ∧ Asc l ∧ ∀ x ∈ l, lessK x p = false
  | [], _, _ => ⟨by simp, List.Pairwise.nil, by simp⟩
  | x :: l, p, h => by
    unfold lvgo at h
    by_cases he : keyE p x = 0
    · rw [if_neg (by simpa using he)] at h
      obtain ⟨h1, h2, h3⟩ := lvgo_zero h
      have hk := keyE_zero he
      refine ⟨fun y hy => ?_, List.pairwise_cons.2 ⟨h3, h2⟩, fun y hy => ?_⟩
      · rcases List.mem_cons.1 hy with rfl | hy
        · exact hk.1
        · exact h1 y hy
      · rcases List.mem_cons.1 hy with rfl | hy
        · exact hk.2
        · exact leK_trans hk.2 (h3 y hy)
    · rw [if_pos he] at h
      exact absurd h he
theorem lvlE_zero {S : Int} {l : List ByteArray} (h : lvlE S l = 0) : GdL S l := by
  unfold lvlE at h
  by_cases hs : S ≤ (l.length : Int)
  · rw [if_pos hs] at h; cases h
  · rw [if_neg hs] at h
    have h1 := lvgo_zero h
    exact ⟨by omega, h1.1, h1.2.1⟩
theorem lvsE_zero {S : Int} : ∀ {L : List (List ByteArray)}, lvsE S L = 0 → ∀ l ∈ L, GdL S l
  | [], _ => by simp
  | l :: L, h => by
    unfold lvsE at h
    by_cases he : lvlE S l = 0
    · rw [if_neg (by simpa using he)] at h
      intro m hm
      rcases List.mem_cons.1 hm with rfl | hm
      · exact lvlE_zero he
      · exact lvsE_zero h m hm
    · rw [if_pos he] at h
      exact absurd h he
theorem szR_iff (S : Int) : szR S = true ↔ 2 ≤ S ∧ S ≤ 32 ∧ S % 2 = 0 := by unfold szR; simp [and_assoc]
theorem ttR_iff (T : Int) : ttR T = true ↔ 0 ≤ T ∧ T ≤ 1099511627776 := by unfold ttR; simp
theorem parR_iff (S T K : Int) : parR S T K = true ↔ (2 ≤ S ∧ S ≤ 32 ∧ S % 2 = 0) ∧ (0 ≤ T ∧ T ≤ 1099511627776) ∧ (0 ≤ K ∧ K ≤ 1099511627776) := by
  unfold parR
  rw [Bool.and_eq_true, Bool.and_eq_true, szR_iff, ttR_iff, ttR_iff, and_assoc]
theorem lvgo_bd : ∀ (l : List ByteArray) (p : ByteArray), 0 ≤ lvgo p l ∧ lvgo p l ≤ 19
  | [], _ => by unfold lvgo; omega
  | x :: l, p => by
    unfold lvgo
    split
    · rcases keyE_cases p x with h | h | h <;> omega
    · exact lvgo_bd l x
theorem lvlE_bd (S : Int) (l : List ByteArray) : 0 ≤ lvlE S l ∧ lvlE S l ≤ 19 := by
  unfold lvlE
  have := lvgo_bd l ⟨#[]⟩
  split <;> omega
theorem insN_app : ∀ (L M : List (List ByteArray)) (i : Nat), insN i (L ++ M) = insN i L + insN (i + L.length) M
  | [], M, i => by simp [insN]
  | l :: L, M, i => by
    have := insN_app L M (i + 1)
    simp only [List.cons_append, insN, this, List.length_cons]
    rw [show i + 1 + L.length = i + (L.length + 1) by omega]
    omega
theorem insN_bd : ∀ (L : List (List ByteArray)) (i m : Nat), (∀ l ∈ L, l.length ≤ m) → insN i L + m * 2 ^ i ≤ m * 2 ^ (i + L.length)
  | [], i, m, _ => by simp [insN]
  | l :: L, i, m, h => by
    have h1 := insN_bd L (i + 1) m (fun x hx => h x (by simp [hx]))
    have h2 := Nat.mul_le_mul_right (2 ^ i) (h l (by simp))
    simp only [insN, List.length_cons]
    rw [show i + (L.length + 1) = i + 1 + L.length by omega]
    have e : m * 2 ^ (i + 1) = m * 2 ^ i + m * 2 ^ i := by rw [Nat.pow_succ, ← Nat.mul_assoc]; omega
    omega
theorem getD_mem {α : Type} {L : List α} {d : α} {k : Nat} (h : k < L.length) : L.getD k d ∈ L := by
  rw [show L.getD k d = L[k] by simp [List.getD, h]]
  exact List.getElem_mem h
theorem drop_getD {α : Type} {L : List α} {d : α} {k : Nat} (h : k < L.length) : L.drop k = L.getD k d :: L.drop (k + 1) := by
  rw [List.drop_eq_getElem_cons h]
  simp [List.getD, h]
theorem take_getD {α : Type} {L : List α} {d : α} {k : Nat} (h : k < L.length) : L.take (k + 1) = L.take k ++ [L.getD k d] := by
  rw [List.take_succ_eq_append_getElem h]
  simp [List.getD, h]
theorem insN_take {L : List (List ByteArray)} {k : Nat} (h : k < L.length) : insN 0 (L.take (k + 1)) = insN 0 (L.take k) + (L.getD k []).length * 2 ^ k := by
  rw [take_getD (d := []) h, insN_app]
  simp [insN, List.length_take, Nat.min_eq_left (Nat.le_of_lt h)]
end Go.Proofs.YtjibbnknliamkaaGreatDoor
namespace Go.Proofs.YtjibbnknliamkaaGreatDoor
open Go.RowKit
set_option linter.unusedVariables false
set_option linter.unusedSimpArgs false
/-- A struct of three cells: an entry that can be written. -/
def En3 (g : Nat) (w : World) : Prop :=
  (w.cell? ⟨g, 0, none⟩ = some (.string ⟨#[]⟩) ∧ w.cell? ⟨g, 1, none⟩ = some (.int .i64 0) ∧ w.cell? ⟨g, 2, none⟩ = some (.int .i64 0)) ∧ w.frozen? ⟨g, 0, none⟩ = false ∧ w.frozen? ⟨g, 1, none⟩ = false ∧ w.frozen? ⟨g, 2, none⟩ = false
theorem En3.keep {g : Nat} {w w' : World} (h : En3 g w) (hb : w'.heap[g]? = w.heap[g]?) : En3 g w' := by
  obtain ⟨⟨h0, h1, h2⟩, f0, f1, f2⟩ := h
  have hc : ∀ o, w'.cell? ⟨g, o, none⟩ = w.cell? ⟨g, o, none⟩ := fun o => World.cell?_of_block (w := w) (a := ⟨g, o, none⟩) hb
  have hf : ∀ o, w'.frozen? ⟨g, o, none⟩ = w.frozen? ⟨g, o, none⟩ := fun o => World.frozen?_of_block (w := w) (a := ⟨g, o, none⟩) hb
  exact ⟨⟨(hc _).trans h0, (hc _).trans h1, (hc _).trans h2⟩, (hf _).trans f0, (hf _).trans f1, (hf _).trans f2⟩
theorem En3.lt {g : Nat} {w : World} (h : En3 g w) : g < w.heap.size := by
  have h0 := h.1.1
  unfold World.cell? at h0
  cases hb : w.heap[g]? with
  | none => simp [hb] at h0
  | some o => exact (Array.getElem?_eq_some_iff.1 hb).1
end Go.Proofs.YtjibbnknliamkaaGreatDoor
namespace Go.Proofs.YtjibbnknliamkaaGreatDoor
open Go.RowKit
set_option linter.unusedVariables false
set_option linter.unusedSimpArgs false
/-- Of the blocks that there were, block g alone has turned. -/
def One (g : Nat) (w w' : World) : Prop := Below g w w' ∧ w.heap.size ≤ w'.heap.size ∧ ∀ b, b < w.heap.size → b ≠ g → w'.heap[b]? = w.heap[b]?
theorem One.refl (g : Nat) (w : World) : One g w w := ⟨Below.refl _ _, Nat.le_refl _, fun _ _ _ => rfl⟩
theorem One.trans {g : Nat} {w u v : World} (h : One g w u) (k : One g u v) : One g w v := ⟨h.1.trans k.1, Nat.le_trans h.2.1 k.2.1, fun b hb hn => (k.2.2 b (Nat.lt_of_lt_of_le hb h.2.1) hn).trans (h.2.2 b hb hn)⟩
theorem One.set (g o : Nat) (w : World) (v : Value) : One g w (w.setCell ⟨g, o, none⟩ v) := ⟨(Below.refl g w).setCell (p := ⟨g, o, none⟩) (Nat.le_refl _) v, by simp, fun b _ hn => Below.heap_setCell _ ⟨g, o, none⟩ _ _ hn⟩
theorem One.below {g B : Nat} {w w' : World} (h : One g w w') (hB : B ≤ g) : Below B w w' := h.1.mono hB
theorem At3.keep {x : Ent} {b o : Nat} {w w' : World} (h : At3 x b o w) (hb : w'.heap[b]? = w.heap[b]?) : At3 x b o w' :=
  ⟨(World.cell?_of_block (w := w) (a := ⟨b, o, none⟩) hb).trans h.1, (World.cell?_of_block (w := w) (a := ⟨b, o + 1, none⟩) hb).trans h.2.1, (World.cell?_of_block (w := w) (a := ⟨b, o + 2, none⟩) hb).trans h.2.2⟩
end Go.Proofs.YtjibbnknliamkaaGreatDoor
namespace Go.Proofs.YtjibbnknliamkaaGreatDoor
open Go.RowKit
set_option linter.unusedVariables false
set_option linter.unusedSimpArgs false
section
variable {W : World} {S T : Int} {u : Value} {s : Bool} {S' T' : Int} {u' : Value} {s' : Bool} {w w' : World}
end
section
variable {W : World} {S T : Int} {u : Value} {s : Bool} {S' T' : Int} {u' : Value} {s' : Bool} {L M : List Ent} {la lb : Int} {gs g9 g10 b9 b10 : Nat} {r : Bool} {w w' : World}
end
section
variable {W : World} {S T : Int} {u : Value} {s : Bool} {S' T' : Int} {u' : Value} {s' : Bool} {L M : List Ent} {la lb : Int} {gs g9 g10 b9 b10 : Nat} {r : Bool} {w w' : World} {l : List Nat}
end
theorem At3.new (x : Ent) (w : World) : At3 x w.heap.size 0 (w.alloc (.cells #[.string x.k, .int .i64 x.c, .int .i64 x.e] 64)) := ⟨by go_simp, by go_simp, by go_simp⟩
theorem At3.lt {x : Ent} {b o : Nat} {w : World} (h : At3 x b o w) : b < w.heap.size := by
  have h0 := h.1
  unfold World.cell? at h0
  cases hb : w.heap[b]? with
  | none => simp [hb] at h0
  | some o => exact (Array.getElem?_eq_some_iff.1 hb).1
theorem At3.go {x : Ent} {b o : Nat} {w w' : World} (h : At3 x b o w) (hb : Below w.heap.size w w') : At3 x b o w' := h.below hb h.lt
theorem At3.zero {x : Ent} {b : Nat} {w : World} (h : At3 x b 0 w) : w.cell? ⟨b, 0, none⟩ = some (.string x.k) ∧ w.cell? ⟨b, 1, none⟩ = some (.int .i64 x.c) ∧ w.cell? ⟨b, 2, none⟩ = some (.int .i64 x.e) := h
theorem OwnE.turn {B g : Nat} {L : List Ent} {v : Value} {w w' : World} (h : OwnE B L v w) (ho : One g w w') (hg : g < B) : OwnE B L v w' := by
  obtain ⟨hy, h1, h2⟩ := h
  refine ⟨hy, h1, ?_⟩
  rcases h2 with h2 | ⟨b, cap, cur, rfl, hb', hg', r⟩
  · exact .inl h2
  · exact .inr ⟨b, cap, cur, rfl, hb', (ho.2.2 b (Array.getElem?_eq_some_iff.1 hg').1 (by omega)).trans hg', r⟩
end Go.Proofs.YtjibbnknliamkaaGreatDoor
