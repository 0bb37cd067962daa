/- FqO, SrtI, FqP, StrRow, RkO, RkN, Find9, Join9, MeetX, MerS: in one text. -/
import Derived.Test.YtjibbnknliamkaaGreatDoorPg06
import Derived.Test.YtjibbnknliamkaaGreatDoorPg01
import Derived.Test.YtjibbnknliamkaaGreatDoorPg05
import Derived.Test.YtjibbnknliamkaaGreatDoorPg07
import Derived.Test.YtjibbnknliamkaaGreatDoorPg04
import Derived.Test.YtjibbnknliamkaaGreatDoorPg03
import Derived.Test.YtjibbnknliamkaaGreatDoorPg00
import Derived.Test.YtjibbnknliamkaaGreatDoorPg08
import Derived.Test.YtjibbnknliamkaaGreatDoorPg09
import Derived.Test.YtjibbnknliamkaaGreatDoorProg
import Derived.Test.YtjibbnknliamkaaGreatDoorPg02
import Derived.Laws.Cover1
import Derived.Deep.RegionHeld3
import Derived.Deep.MidRow
import Derived.Shelf.Strconv.Itoa0
import Derived.Deep.RegionLaw
import Derived.WalkKit
import Derived.ProofKit
import Derived.Handy
import Derived.Shelf.Small.Bits
import Derived.Shelf.Bits.Mul64
import Derived.Shelf.Spec.TrailingZeros
import Derived.Lib.Hide
import Derived.Lib.Split
import Derived.Lib.SliceRun
import Derived.Shelf.Abstract
namespace Go.Proofs.YtjibbnknliamkaaGreatDoor
open Go.RowKit
set_option linter.unusedVariables false
set_option linter.unusedSimpArgs false
theorem u8_triQ (a b : UInt8) : a < b ∨ a = b ∨ b < a := by
  by_cases h : a < b
  · exact .inl h
  · by_cases h2 : b < a
    · exact .inr (.inr h2)
    · exact .inr (.inl (UInt8.le_antisymm (UInt8.not_lt.1 h2) (UInt8.not_lt.1 h)))
theorem lessQ_cons (a b : UInt8) (xs ys : List UInt8) : Op.bytesLess (a :: xs) (b :: ys) = true ↔ a < b ∨ (a = b ∧ Op.bytesLess xs ys = true) := by
  conv => lhs; unfold Op.bytesLess
  simp
theorem lessQ_tri : ∀ a b : List UInt8, Op.bytesLess a b = true ∨ a = b ∨ Op.bytesLess b a = true
  | [], [] => .inr (.inl rfl)
  | [], _ :: _ => .inl (by simp [Op.bytesLess])
  | _ :: _, [] => .inr (.inr (by simp [Op.bytesLess]))
  | a :: xs, b :: ys => by
    rw [lessQ_cons, lessQ_cons]
    rcases u8_triQ a b with h | rfl | h
    · exact .inl (.inl h)
    · rcases lessQ_tri xs ys with h | rfl | h
      · exact .inl (.inr ⟨rfl, h⟩)
      · exact .inr (.inl rfl)
      · exact .inr (.inr (.inr ⟨rfl, h⟩))
    · exact .inr (.inr (.inl h))
theorem lessQ_trans : ∀ {a b c : List UInt8}, Op.bytesLess a b = true → Op.bytesLess b c = true → Op.bytesLess a c = true
  | [], _, [], h1, h2 => by
    rename_i b
    cases b <;> simp [Op.bytesLess] at h2
  | [], _, _ :: _, _, _ => by simp [Op.bytesLess]
  | a :: xs, [], _, h1, _ => by simp [Op.bytesLess] at h1
  | a :: xs, b :: ys, [], _, h2 => by simp [Op.bytesLess] at h2
  | a :: xs, b :: ys, c :: zs, h1, h2 => by
    rw [lessQ_cons] at h1 h2 ⊢
    rcases h1 with h1 | ⟨rfl, h1⟩
    · rcases h2 with h2 | ⟨rfl, h2⟩
      · exact .inl (UInt8.lt_trans h1 h2)
      · exact .inl h1
    · rcases h2 with h2 | ⟨rfl, h2⟩
      · exact .inl h2
      · exact .inr ⟨rfl, lessQ_trans h1 h2⟩
theorem lessQ_irr : ∀ a : List UInt8, Op.bytesLess a a = false
  | [] => by simp [Op.bytesLess]
  | a :: xs => by
    cases h : Op.bytesLess (a :: xs) (a :: xs) with
    | false => rfl
    | true =>
      rcases (lessQ_cons a a xs xs).1 h with h | ⟨_, h⟩
      · exact absurd h (UInt8.lt_irrefl a)
      · rw [lessQ_irr xs] at h; cases h
theorem toL_inj {a b : ByteArray} (h : a.toList = b.toList) : a = b := by
  rw [Lib.toList_data, Lib.toList_data] at h
  exact data_inj h
theorem lessK_tri (a b : ByteArray) : lessK a b = true ∨ a = b ∨ lessK b a = true := by
  unfold lessK
  rcases lessQ_tri a.toList b.toList with h | h | h
  · exact .inl h
  · exact .inr (.inl (toL_inj h))
  · exact .inr (.inr h)
theorem lessK_trans {a b c : ByteArray} (h : lessK a b = true) (k : lessK b c = true) : lessK a c = true := lessQ_trans h k
theorem lessK_irr (a : ByteArray) : lessK a a = false := lessQ_irr _
theorem lessK_asym {a b : ByteArray} (h : lessK a b = true) : lessK b a = false := by
  cases h2 : lessK b a with
  | false => rfl
  | true => have := lessK_trans h h2; rw [lessK_irr] at this; cases this
theorem lessK_ne {a b : ByteArray} (h : lessK a b = true) : sameK a b = false := by
  cases h2 : sameK a b with
  | false => rfl
  | true =>
    have := (sameK_iff a b).1 h2
    subst this
    rw [lessK_irr] at h
    cases h
theorem lessK_ne' {a b : ByteArray} (h : lessK a b = true) : sameK b a = false := by rw [sameK_comm]; exact lessK_ne h
/-- a < b; a = b; b < a: what Go's comparisons of strings give. -/
theorem cmp_lt {a b : ByteArray} (h : lessK a b = true) : Op.bytesLess a.toList b.toList = true ∧ (a.toList == b.toList) = false ∧ Op.bytesLess b.toList a.toList = false ∧ (b.toList == a.toList) = false := ⟨h, lessK_ne h, lessK_asym h, lessK_ne' h⟩
theorem cmp_eq (a : ByteArray) : Op.bytesLess a.toList a.toList = false ∧ (a.toList == a.toList) = true := ⟨lessK_irr a, by simp⟩
theorem lessK_empty {b : ByteArray} (h : keyB (byt b) = true) : lessK ⟨#[]⟩ b = true := by
  have hs : 0 < b.size := by
    unfold keyB at h
    rw [byt_len] at h
    simp at h
    omega
  unfold lessK
  have h2 := str_ne hs
  cases hb : b.toList with
  | nil => rw [hb] at h2; cases h2
  | cons x xs => rw [Lib.toList_data]; rfl
/-- The key ahead of position j. -/
def prevK (L : List Ent) (j : Nat) : ByteArray := if j = 0 then ⟨#[]⟩ else (L.getD (j - 1) Ent.z).k
theorem prevK_zero (L : List Ent) : prevK L 0 = ⟨#[]⟩ := rfl
theorem prevK_succ (L : List Ent) (j : Nat) : prevK L (j + 1) = (L.getD j Ent.z).k := by unfold prevK; rw [if_neg (by omega), Nat.add_sub_cancel]
theorem errQ_prev {L : List Ent} {j : Nat} (he : entQ (L.getD j Ent.z) = 0) : errQ L j = if lessK (prevK L j) (L.getD j Ent.z).k = false then 19 else 0 := by
  unfold errQ
  rw [if_neg (by simpa using he)]
  cases j with
  | zero =>
    rw [prevK_zero, lessK_empty (entQ_zero he).1, if_neg (by simp), if_neg (by simp)]
  | succ j =>
    rw [prevK_succ, Nat.add_sub_cancel]
    simp
theorem errQ_bad {L : List Ent} {j : Nat} (he : entQ (L.getD j Ent.z) ≠ 0) : errQ L j = entQ (L.getD j Ent.z) := by
  unfold errQ
  rw [if_pos he]
end Go.Proofs.YtjibbnknliamkaaGreatDoor
namespace Go.Proofs.YtjibbnknliamkaaGreatDoor
open Go.RowKit
set_option linter.unusedVariables false
set_option linter.unusedSimpArgs false
/-- Entries j and j - 1 change places. -/
def swpI (L : List Int) (j : Nat) : List Int := (L.set j (L.getD (j - 1) 0)).set (j - 1) (L.getD j 0)
/-- Entry j goes ahead as long as it comes before its neighbour. -/
def sinkI (L : List Int) : Nat → List Int
  | 0 => L
  | j + 1 => if L.getD (j + 1) 0 < L.getD j 0 then sinkI (swpI L (j + 1)) j else L
def pushI (A : List Int) (x : Int) : List Int := sinkI (A ++ [x]) A.length
def sortI (L : List Int) : List Int := L.foldl pushI []
theorem swp_lenI (L : List Int) (j : Nat) : (swpI L j).length = L.length := by simp [swpI]
theorem sink_lenI (L : List Int) (j : Nat) : (sinkI L j).length = L.length := by
  induction j generalizing L with
  | zero => rfl
  | succ j ih =>
    unfold sinkI
    split
    · rw [ih, swp_lenI]
    · rfl
theorem push_lenI (A : List Int) (x : Int) : (pushI A x).length = A.length + 1 := by simp [pushI, sink_lenI]
theorem foldl_lenI (L : List Int) : ∀ A : List Int, (L.foldl pushI A).length = A.length + L.length := by
  induction L with
  | nil => intro A; simp
  | cons x L ih => intro A; rw [List.foldl_cons, ih, push_lenI, List.length_cons]; omega
theorem sortI_len (L : List Int) : (sortI L).length = L.length := by
  unfold sortI
  rw [foldl_lenI]
  simp
theorem getD_app_leftI {A : List Int} (T : List Int) {j : Nat} (h : j < A.length) : (A ++ T).getD j 0 = A.getD j 0 := by
  simp [List.getD, List.getElem?_append_left h]
theorem swp_appI {A : List Int} (T : List Int) {j : Nat} (h : j < A.length) : swpI (A ++ T) j = swpI A j ++ T := by
  unfold swpI
  rw [getD_app_leftI T h, getD_app_leftI T (show j - 1 < A.length by omega), List.set_append_left _ _ h, List.set_append_left _ _ (by rw [List.length_set]; omega)]
theorem sink_appI (T : List Int) (j : Nat) : ∀ A : List Int, j < A.length → sinkI (A ++ T) j = sinkI A j ++ T := by
  induction j with
  | zero => intro A _; rfl
  | succ j ih =>
    intro A h
    unfold sinkI
    rw [getD_app_leftI T h, getD_app_leftI T (show j < A.length by omega), swp_appI T h, ih _ (by rw [swp_lenI]; omega)]
    split <;> rfl
theorem swp_permI {L : List Int} {j : Nat} (h : j < L.length) (h0 : 0 < j) : (swpI L j).Perm L := by
  obtain ⟨i, rfl⟩ : ∃ i, j = i + 1 := ⟨j - 1, by omega⟩
  unfold swpI
  rw [Nat.add_sub_cancel]
  induction i generalizing L with
  | zero =>
    match L, h with
    | a :: b :: L, _ => exact List.Perm.swap _ _ _
  | succ i ih =>
    match L, h with
    | a :: L, h =>
      have := ih (L := L) (by simp at h; omega) (by omega)
      simpa using this
theorem sink_permI (j : Nat) : ∀ L : List Int, j < L.length → (sinkI L j).Perm L := by
  induction j with
  | zero => intro L _; exact List.Perm.refl _
  | succ j ih =>
    intro L h
    unfold sinkI
    split
    · exact (ih _ (by rw [swp_lenI]; omega)).trans (swp_permI h (by omega))
    · exact List.Perm.refl _
theorem push_permI (A : List Int) (x : Int) : (pushI A x).Perm (A ++ [x]) := sink_permI _ _ (by simp)
theorem foldl_permI (L : List Int) : ∀ A : List Int, (L.foldl pushI A).Perm (A ++ L) := by
  induction L with
  | nil => intro A; simp
  | cons x L ih =>
    intro A
    refine (ih _).trans ?_
    refine ((push_permI A x).append_right L).trans ?_
    rw [List.append_assoc]
    exact List.Perm.refl _
theorem sortI_perm (L : List Int) : (sortI L).Perm L := foldl_permI L []
theorem pushI_snoc (A : List Int) (y x : Int) : pushI (A ++ [y]) x = if x < y then pushI A x ++ [y] else A ++ [y] ++ [x] := by
  unfold pushI
  rw [List.length_append, List.length_singleton]
  conv => lhs; unfold sinkI
  have e1 : (A ++ [y] ++ [x]).getD (A.length + 1) 0 = x := by simp [List.getD]
  have e2 : (A ++ [y] ++ [x]).getD A.length 0 = y := by simp [List.getD]
  rw [e1, e2]
  by_cases h : x < y
  · rw [if_pos h, if_pos h]
    have e3 : swpI (A ++ [y] ++ [x]) (A.length + 1) = (A ++ [x]) ++ [y] := by
      unfold swpI
      rw [Nat.add_sub_cancel, e1, e2]
      simp [List.set_append]
    rw [e3, sink_appI [y] A.length (A ++ [x]) (by simp)]
  · rw [if_neg h, if_neg h]
theorem snoc_indI {p : List Int → Prop} (h0 : p []) (h1 : ∀ L c, p L → p (L ++ [c])) (L : List Int) : p L := by
  rw [← List.reverse_reverse L]
  induction L.reverse with
  | nil => exact h0
  | cons x l ih => rw [List.reverse_cons]; exact h1 _ _ ih
def UpI (L : List Int) : Prop := L.Pairwise (fun x y => x ≤ y)
theorem pushI_sorted {A : List Int} {x : Int} (h : UpI A) : UpI (pushI A x) := by
  revert h
  refine snoc_indI (p := fun A => UpI A → UpI (pushI A x)) ?_ ?_ A
  · intro _
    exact List.pairwise_singleton _ _
  · intro A y ih h
    rw [pushI_snoc]
    have h' := List.pairwise_append.1 h
    by_cases hb : x < y
    · rw [if_pos hb]
      refine List.pairwise_append.2 ⟨ih h'.1, List.pairwise_singleton _ _, fun a ha b hb' => ?_⟩
      rw [List.mem_singleton] at hb'
      subst hb'
      have := (push_permI A x).mem_iff.1 ha
      rcases List.mem_append.1 this with h2 | h2
      · exact h'.2.2 a h2 b (by simp)
      · rw [List.mem_singleton] at h2; omega
    · rw [if_neg hb]
      refine List.pairwise_append.2 ⟨h, List.pairwise_singleton _ _, fun a ha b hb' => ?_⟩
      rw [List.mem_singleton] at hb'
      subst hb'
      rcases List.mem_append.1 ha with h2 | h2
      · have := h'.2.2 a h2 y (by simp); omega
      · rw [List.mem_singleton] at h2; omega
theorem foldlI_sorted {L : List Int} : ∀ {A : List Int}, UpI A → UpI (L.foldl pushI A) := by
  induction L with
  | nil => intro A h; exact h
  | cons x L ih => intro A h; exact ih (pushI_sorted h)
theorem sortI_sorted (L : List Int) : UpI (sortI L) := foldlI_sorted List.Pairwise.nil
end Go.Proofs.YtjibbnknliamkaaGreatDoor
namespace Go.Proofs.YtjibbnknliamkaaGreatDoor
open Go.RowKit
set_option linter.unusedVariables false
set_option linter.unusedSimpArgs false
theorem tS_zero {a : Int} (h0 : 0 ≤ a) (h1 : a ≤ 1099511627776) : tS a 0 = a ∧ tF_2 a 0 = false := by
  unfold tS tF_2 satN satF nat0
  constructor
  · split <;> omega
  · simp; omega
/-- Ascending keys. -/
def AscK (L : List Ent) : Prop := L.Pairwise (fun x y => lessK x.k y.k = true)
def addE (x y : Ent) : Ent := ⟨x.k, tS x.c y.c, 0⟩
/-- The entries of both. -/
def unL : List Ent → List Ent → List Ent
  | [], M => M
  | x :: L, [] => x :: L
  | x :: L, y :: M => if lessK x.k y.k = true then x :: unL L (y :: M) else if lessK y.k x.k = true then y :: unL (x :: L) M else addE x y :: unL L M
termination_by L M => L.length + M.length
/-- Whether a sum was cut off. -/
def unF : List Ent → List Ent → Bool
  | [], M => false
  | x :: L, [] => false
  | x :: L, y :: M => if lessK x.k y.k = true then unF L (y :: M) else if lessK y.k x.k = true then unF (x :: L) M else (tF_2 x.c y.c || unF L M)
termination_by L M => L.length + M.length
theorem unL_nil_left (M : List Ent) : unL [] M = M := by unfold unL; rfl
theorem unL_nil_right (L : List Ent) : unL L [] = L := by
  cases L <;> (unfold unL; rfl)
theorem unF_nil_left (M : List Ent) : unF [] M = false := by unfold unF; rfl
theorem unF_nil_right (L : List Ent) : unF L [] = false := by
  cases L <;> (unfold unF; rfl)
theorem unL_cons (x y : Ent) (L M : List Ent) : unL (x :: L) (y :: M) = if lessK x.k y.k = true then x :: unL L (y :: M) else if lessK y.k x.k = true then y :: unL (x :: L) M else addE x y :: unL L M := by
  conv => lhs; unfold unL
theorem unF_cons (x y : Ent) (L M : List Ent) : unF (x :: L) (y :: M) = if lessK x.k y.k = true then unF L (y :: M) else if lessK y.k x.k = true then unF (x :: L) M else (tF_2 x.c y.c || unF L M) := by
  conv => lhs; unfold unF
/-- d subtracted from all counts, and what is not above 0 left out. -/
def lowL_2 (L : List Ent) (d : Int) : List Ent := (L.filter (fun x => decide (d < x.c))).map (fun x => ⟨x.k, x.c - d, 0⟩)
theorem lowL_nil (d : Int) : lowL_2 [] d = [] := rfl
theorem lowL_succ {L : List Ent} {j : Nat} (h : j < L.length) (d : Int) : lowL_2 (L.take (j + 1)) d = lowL_2 (L.take j) d ++ (if d < (L.getD j Ent.z).c then [⟨(L.getD j Ent.z).k, (L.getD j Ent.z).c - d, 0⟩] else []) := by
  unfold lowL_2
  rw [take_succE h, List.filter_append, List.map_append]
  congr 1
  by_cases hd : d < (L.getD j Ent.z).c
  · rw [if_pos hd, List.filter_cons, if_pos (by simpa using hd)]; rfl
  · rw [if_neg hd, List.filter_cons, if_neg (by simpa using hd)]; rfl
theorem lowL_len (L : List Ent) (d : Int) : (lowL_2 L d).length ≤ L.length := by
  unfold lowL_2
  rw [List.length_map]
  exact List.length_filter_le _ _
/-- An entry put in its place. -/
def insL (x : Ent) : List Ent → List Ent
  | [] => [x]
  | y :: L => if lessK x.k y.k = true then x :: y :: L else y :: insL x L
theorem insL_len (x : Ent) (L : List Ent) : (insL x L).length = L.length + 1 := by
  induction L with
  | nil => rfl
  | cons y L ih => unfold insL; split <;> simp [ih]
/-- The counts. -/
def cnts (L : List Ent) : List Int := L.map (fun x => x.c)
/-- What at most S of the counts exceed. -/
def srpl (L : List Ent) (S : Int) : Int := if (L.length : Int) ≤ S then 0 else (sortI (cnts L)).getD (L.length - 1 - S.toNat) 0
/-- The sum of two summaries. -/
def sumQ (a b : FQ) : FQ :=
  ⟨a.S, tS a.T b.T, tS (tS a.K b.K) (srpl (unL a.L b.L) a.S), lowL_2 (unL a.L b.L) (srpl (unL a.L b.L) a.S),
    a.s || b.s || unF a.L b.L || tF_2 a.T b.T || tF_2 a.K b.K || tF_2 (tS a.K b.K) (srpl (unL a.L b.L) a.S)⟩
def oneQ (S : Int) (k : ByteArray) (x : Int) : FQ := ⟨S, x, 0, [⟨k, x, 0⟩], false⟩
def insQE (t : FQ) (k : ByteArray) (x : Int) : Int := if valQ t.S t.T t.K t.L ≠ 0 then valQ t.S t.T t.K t.L else itemE (byt k) x
def insQ (t : FQ) (k : ByteArray) (x : Int) : FQ := if insQE t k x ≠ 0 then FQ.none else sumQ t (oneQ t.S k x)
def newQE (S : Int) : Int := if S < 1 ∨ 32 < S then 5 else 0
def newQ (S : Int) : FQ := if S < 1 ∨ 32 < S then FQ.none else ⟨S, 0, 0, [], false⟩
end Go.Proofs.YtjibbnknliamkaaGreatDoor
namespace Go.Proofs.YtjibbnknliamkaaGreatDoor
open Go.RowKit
set_option linter.unusedVariables false
set_option linter.unusedSimpArgs false
def cellsS (L : List ByteArray) : List Value := L.map Value.string
theorem cellsS_len (L : List ByteArray) : (cellsS L).length = L.length := by simp [cellsS]
theorem cellsS_at {L : List ByteArray} {j : Nat} (h : j < L.length) : (cellsS L)[j]? = some (.string (L.getD j ByteArray.empty)) := by simp [cellsS, List.getD, h]
def OwnS (B : Nat) (L : List ByteArray) (v : Value) (w : World) : Prop := w.ownsRow B 9 1 v L.length (cellsS L)
def RdS (L : List ByteArray) (v : Value) (w : World) : Prop :=
  ∃ a cap, v = .slice a L.length cap ∧ L.length ≤ cap ∧ cap ≤ maxLen ∧ (0 < L.length → ∃ b off, a = some ⟨b, off, none⟩ ∧ b < w.heap.size ∧ ∀ j, j < L.length → w.cell? ⟨b, off + j, none⟩ = some (.string (L.getD j ByteArray.empty)))
theorem RdS.below {L : List ByteArray} {v : Value} {w w' : World} (h : RdS L v w) (hb : Below w.heap.size w w') : RdS L v w' := by
  obtain ⟨a, cap, rfl, h1, h2, h3⟩ := h
  refine ⟨a, cap, rfl, h1, h2, fun hp => ?_⟩
  obtain ⟨b, off, rfl, hlt, hc⟩ := h3 hp
  exact ⟨b, off, rfl, Nat.lt_of_lt_of_le hlt hb.size, fun j hj => (hb.cell (p := ⟨b, off + j, none⟩) hlt).trans (hc j hj)⟩
theorem OwnS.rd {B : Nat} {L : List ByteArray} {v : Value} {w : World} (ho : OwnS B L v w) : RdS L v w := by
  have hl := World.ownsRow.lt ho
  rcases ho.2 with ⟨rfl, hn⟩ | ⟨g, cap, cur, rfl, hb, _, h1, h2, _⟩
  · exact ⟨none, 0, by rw [hn], by omega, by simp [maxLen], fun hp => by omega⟩
  · exact ⟨some ⟨g, 0, none⟩, cap, rfl, h1, h2, fun hp => ⟨g, 0, rfl, (hl g rfl).2, fun j hj => by
      rw [Nat.zero_add]; exact (World.ownsRow.cellAt ho j (by omega)).trans (cellsS_at hj)⟩⟩
theorem OwnS.alloc {B : Nat} {L : List ByteArray} {v : Value} {w : World} (h : OwnS B L v w) (o : Obj) : OwnS B L v (w.alloc o) := World.ownsRow.alloc h o
theorem OwnS.below {B : Nat} {L : List ByteArray} {v : Value} {w w' : World} (h : OwnS B L v w) (hb : Below w.heap.size w w') : OwnS B L v w' := by
  obtain ⟨h1, h2⟩ := h
  refine ⟨h1, ?_⟩
  rcases h2 with h2 | ⟨g, cap, cur, rfl, hb', hg, r⟩
  · exact .inl h2
  · exact .inr ⟨g, cap, cur, rfl, hb', (hb.block g (Array.getElem?_eq_some_iff.1 hg).1).trans hg, r⟩
theorem OwnS.mono {B B' : Nat} {L : List ByteArray} {v : Value} {w : World} (h : OwnS B L v w) (hB : B' ≤ B) : OwnS B' L v w := by
  obtain ⟨h1, h2⟩ := h
  refine ⟨h1, ?_⟩
  rcases h2 with h2 | ⟨g, cap, cur, rfl, hb, r⟩
  · exact .inl h2
  · exact .inr ⟨g, cap, cur, rfl, Nat.le_trans hB hb, r⟩
theorem OwnS.empty (B : Nat) (w : World) : OwnS B [] (.slice none 0 0) w := World.ownsRow_nil _ _ _ _
theorem OwnS.drewN {B : Nat} {L : List ByteArray} {v : Value} {w : World} (h : OwnS B L v w) (n : Nat) : OwnS B L v (w.drewN n) := h
theorem OwnS.one (s : ByteArray) (w : World) : OwnS w.heap.size [s] (.slice (some ⟨w.heap.size, 0, none⟩) 1 1) (w.alloc (.cells #[.string s] 9)) :=
  ⟨rfl, .inr ⟨w.heap.size, 1, #[.string s], rfl, Nat.le_refl _, Go.heap_alloc_new w _, Nat.le_refl _, by decide, rfl, rfl⟩⟩
/-- A whole new row. -/
theorem RdS.row (L : List ByteArray) (w : World) (hm : L.length ≤ maxLen) : RdS L (.slice (some ⟨w.heap.size, 0, none⟩) L.length L.length) (w.alloc (.cells (L.map Value.string).toArray 9)) := by
  refine ⟨_, _, rfl, Nat.le_refl _, hm, fun hp => ⟨w.heap.size, 0, rfl, by simp, fun j hj => ?_⟩⟩
  rw [Nat.zero_add, cell_of_row _ w.heap.size j (L.map Value.string).toArray 9 (0, 0) (Go.heap_alloc_new w _), List.getElem?_toArray]
  exact cellsS_at hj
def FromS (M : List ByteArray) (tx : TypeId) (u : Value) (w : World) : Prop := Src Tryz.prog 1 tx u M.length (cellsS M) w
theorem oneCell_str (L : List ByteArray) : ∀ v ∈ cellsS L, v.oneCell' = true := by
  intro v hv
  obtain ⟨s, _, rfl⟩ := List.mem_map.1 hv
  rfl
theorem RdS.src {L : List ByteArray} {v : Value} {w : World} (h : RdS L v w) : FromS L 72 v w := by
  obtain ⟨a, cap, rfl, h1, h2, h3⟩ := h
  have hl : (cellsS L).length = L.length * 1 := by rw [cellsS_len, Nat.mul_one]
  cases a with
  | none =>
    by_cases hp : 0 < L.length
    · obtain ⟨b, off, he, _⟩ := h3 hp
      cases he
    · have : L = [] := List.eq_nil_of_length_eq_zero (by omega)
      subst this
      exact Src.ofNil w Tryz.underlying72 cap
  | some ad =>
    refine Src.ofSlice w Tryz.underlying72 ad L.length cap (cellsS L) hl (fun j u hu => ?_) (oneCell_str L)
    have hj : j < L.length := by
      have := (List.getElem?_eq_some_iff.1 hu).1
      rwa [cellsS_len] at this
    obtain ⟨b, off, he, _, hc⟩ := h3 (by omega)
    cases he
    rw [Addr.add_lit, hc j hj]
    rw [cellsS_at hj] at hu
    exact hu
section
variable {w : World}
end
end Go.Proofs.YtjibbnknliamkaaGreatDoor
namespace Go.Proofs.YtjibbnknliamkaaGreatDoor
open Go.RowKit
set_option linter.unusedVariables false
set_option linter.unusedSimpArgs false
theorem leK_trans {a b c : ByteArray} (h : lessK b a = false) (k : lessK c b = false) : lessK c a = false := by
  cases hc : lessK c a with
  | false => rfl
  | true =>
    rcases lessK_tri a b with h1 | h1 | h1
    · rw [lessK_trans hc h1] at k; cases k
    · subst h1; rw [hc] at k; cases k
    · rw [h1] at h; cases h
/-- No string is less than one ahead of it. -/
def Asc (L : List ByteArray) : Prop := L.Pairwise (fun x y => lessK y x = false)
theorem Asc.at_ {L : List ByteArray} (h : Asc L) {i j : Nat} (hij : i ≤ j) (hj : j < L.length) : lessK (L.getD j ByteArray.empty) (L.getD i ByteArray.empty) = false := by
  rw [show L.getD i ByteArray.empty = L[i]'(by omega) by simp [List.getD, show i < L.length by omega], show L.getD j ByteArray.empty = L[j] by simp [List.getD, hj]]
  rcases Nat.lt_or_ge i j with h1 | h1
  · exact List.pairwise_iff_getElem.1 h i j (by omega) hj h1
  · obtain rfl : i = j := by omega
    exact lessK_irr _
end Go.Proofs.YtjibbnknliamkaaGreatDoor
namespace Go.Proofs.YtjibbnknliamkaaGreatDoor
open Go.RowKit
set_option linter.unusedVariables false
set_option linter.unusedSimpArgs false
structure RK where
  S : Int
  T : Int
  K : Int
  L : List (List ByteArray)
  s : Bool
def RK.none : RK := ⟨0, 0, 0, [], false⟩
/-- What is wrong with a key behind p. -/
def keyE (p x : ByteArray) : Int := if keyB (byt x) = false then 7 else if lessK x p = true then 19 else 0
def lvgo : ByteArray → List ByteArray → Int
  | _, [] => 0
  | p, x :: l => if keyE p x ≠ 0 then keyE p x else lvgo x l
/-- What is wrong with a level. -/
def lvlE (S : Int) (l : List ByteArray) : Int := if S ≤ (l.length : Int) then 11 else lvgo ⟨#[]⟩ l
def lvsE (S : Int) : List (List ByteArray) → Int
  | [] => 0
  | l :: L => if lvlE S l ≠ 0 then lvlE S l else lvsE S L
/-- How many insertions the levels from i on stand for. -/
def insN : Nat → List (List ByteArray) → Nat
  | _, [] => 0
  | i, l :: L => l.length * 2 ^ i + insN (i + 1) L
def szR (S : Int) : Bool := decide (2 ≤ S) && decide (S ≤ 32) && decide (S % 2 = 0)
def ttR (T : Int) : Bool := decide (0 ≤ T) && decide (T ≤ 1099511627776)
def parR (S T K : Int) : Bool := szR S && ttR T && ttR K
/-- The last level is empty. -/
def lastE (L : List (List ByteArray)) : Bool := decide (0 < L.length) && decide ((L.getD (L.length - 1) []).length = 0)
def valR (S T K : Int) (L : List (List ByteArray)) : Int :=
  if parR S T K = false then 5 else if 41 < L.length then 11 else if lvsE S L ≠ 0 then lvsE S L else if lastE L = true then 18 else if (insN 0 L : Int) ≠ T then 17 else 0
/-- A level in order. -/
def GdL (S : Int) (l : List ByteArray) : Prop := (l.length : Int) < S ∧ (∀ x ∈ l, keyB (byt x) = true) ∧ Asc l
theorem keyE_cases (p x : ByteArray) : keyE p x = 0 ∨ keyE p x = 7 ∨ keyE p x = 19 := by
  unfold keyE
  split
  · exact .inr (.inl rfl)
  · split
    · exact .inr (.inr rfl)
    · exact .inl rfl
theorem keyE_zero {p x : ByteArray} (h : keyE p x = 0) : keyB (byt x) = true ∧ lessK x p = false := by
  unfold keyE at h
  cases hk : keyB (byt x) with
  | false => rw [hk, if_pos rfl] at h; cases h
  | true =>
    rw [hk, if_neg (by simp)] at h
    cases hl : lessK x p with
    | true => rw [hl, if_pos rfl] at h; cases h
    | false => exact ⟨rfl, rfl⟩
theorem lvgo_zero : ∀ {l : List ByteArray} {p : ByteArray}, lvgo p l = 0 → (∀ x ∈ l, keyB (byt x) = true) ∧ Asc l ∧ ∀ x ∈ l, lessK x p = false
  | [], _, _ => ⟨by simp, List.Pairwise.nil, by simp⟩
  | x :: l, p, h => by
    unfold lvgo at h
    by_cases he : keyE p x = 0
    · rw [if_neg (by simpa using he)] at h
      obtain ⟨h1, h2, h3⟩ := lvgo_zero h
      have hk := keyE_zero he
      refine ⟨fun y hy => ?_, List.pairwise_cons.2 ⟨h3, h2⟩, fun y hy => ?_⟩
      · rcases List.mem_cons.1 hy with rfl | hy
        · exact hk.1
        · exact h1 y hy
      · rcases List.mem_cons.1 hy with rfl | hy
        · exact hk.2
        · exact leK_trans hk.2 (h3 y hy)
    · rw [if_pos he] at h
      exact absurd h he
theorem lvlE_zero {S : Int} {l : List ByteArray} (h : lvlE S l = 0) : GdL S l := by
  unfold lvlE at h
  by_cases hs : S ≤ (l.length : Int)
  · rw [if_pos hs] at h; cases h
  · rw [if_neg hs] at h
    have h1 := lvgo_zero h
    exact ⟨by omega, h1.1, h1.2.1⟩
theorem lvsE_zero {S : Int} : ∀ {L : List (List ByteArray)}, lvsE S L = 0 → ∀ l ∈ L, GdL S l
  | [], _ => by simp
  | l :: L, h => by
    unfold lvsE at h
    by_cases he : lvlE S l = 0
    · rw [if_neg (by simpa using he)] at h
      intro m hm
      rcases List.mem_cons.1 hm with rfl | hm
      · exact lvlE_zero he
      · exact lvsE_zero h m hm
    · rw [if_pos he] at h
      exact absurd h he
theorem szR_iff (S : Int) : szR S = true ↔ 2 ≤ S ∧ S ≤ 32 ∧ S % 2 = 0 := by unfold szR; simp [and_assoc]
theorem ttR_iff (T : Int) : ttR T = true ↔ 0 ≤ T ∧ T ≤ 1099511627776 := by unfold ttR; simp
theorem parR_iff (S T K : Int) : parR S T K = true ↔ (2 ≤ S ∧ S ≤ 32 ∧ S % 2 = 0) ∧ (0 ≤ T ∧ T ≤ 1099511627776) ∧ (0 ≤ K ∧ K ≤ 1099511627776) := by
  unfold parR
  rw [Bool.and_eq_true, Bool.and_eq_true, szR_iff, ttR_iff, ttR_iff, and_assoc]
theorem lvgo_bd : ∀ (l : List ByteArray) (p : ByteArray), 0 ≤ lvgo p l ∧ lvgo p l ≤ 19
  | [], _ => by unfold lvgo; omega
  | x :: l, p => by
    unfold lvgo
    split
    · rcases keyE_cases p x with h | h | h <;> omega
    · exact lvgo_bd l x
theorem lvlE_bd (S : Int) (l : List ByteArray) : 0 ≤ lvlE S l ∧ lvlE S l ≤ 19 := by
  unfold lvlE
  have := lvgo_bd l ⟨#[]⟩
  split <;> omega
theorem insN_app : ∀ (L M : List (List ByteArray)) (i : Nat), insN i (L ++ M) = insN i L + insN (i + L.length) M
  | [], M, i => by simp [insN]
  | l :: L, M, i => by
    have := insN_app L M (i + 1)
    simp only [List.cons_append, insN, this, List.length_cons]
    rw [show i + 1 + L.length = i + (L.length + 1) by omega]
    omega
theorem insN_bd : ∀ (L : List (List ByteArray)) (i m : Nat), (∀ l ∈ L, l.length ≤ m) → insN i L + m * 2 ^ i ≤ m * 2 ^ (i + L.length)
  | [], i, m, _ => by simp [insN]
  | l :: L, i, m, h => by
    have h1 := insN_bd L (i + 1) m (fun x hx => h x (by simp [hx]))
    have h2 := Nat.mul_le_mul_right (2 ^ i) (h l (by simp))
    simp only [insN, List.length_cons]
    rw [show i + (L.length + 1) = i + 1 + L.length by omega]
    have e : m * 2 ^ (i + 1) = m * 2 ^ i + m * 2 ^ i := by rw [Nat.pow_succ, ← Nat.mul_assoc]; omega
    omega
theorem getD_mem {α : Type} {L : List α} {d : α} {k : Nat} (h : k < L.length) : L.getD k d ∈ L := by
  rw [show L.getD k d = L[k] by simp [List.getD, h]]
  exact List.getElem_mem h
theorem drop_getD {α : Type} {L : List α} {d : α} {k : Nat} (h : k < L.length) : L.drop k = L.getD k d :: L.drop (k + 1) := by
  rw [List.drop_eq_getElem_cons h]
  simp [List.getD, h]
theorem take_getD {α : Type} {L : List α} {d : α} {k : Nat} (h : k < L.length) : L.take (k + 1) = L.take k ++ [L.getD k d] := by
  rw [List.take_succ_eq_append_getElem h]
  simp [List.getD, h]
theorem insN_take {L : List (List ByteArray)} {k : Nat} (h : k < L.length) : insN 0 (L.take (k + 1)) = insN 0 (L.take k) + (L.getD k []).length * 2 ^ k := by
  rw [take_getD (d := []) h, insN_app]
  simp [insN, List.length_take, Nat.min_eq_left (Nat.le_of_lt h)]
end Go.Proofs.YtjibbnknliamkaaGreatDoor
namespace Go.Proofs.YtjibbnknliamkaaGreatDoor
open Go.RowKit
set_option linter.unusedVariables false
set_option linter.unusedSimpArgs false
/-- A struct of three cells: an entry that can be written. -/
def En3 (g : Nat) (w : World) : Prop :=
  (w.cell? ⟨g, 0, none⟩ = some (.string ⟨#[]⟩) ∧ w.cell? ⟨g, 1, none⟩ = some (.int .i64 0) ∧ w.cell? ⟨g, 2, none⟩ = some (.int .i64 0)) ∧ w.frozen? ⟨g, 0, none⟩ = false ∧ w.frozen? ⟨g, 1, none⟩ = false ∧ w.frozen? ⟨g, 2, none⟩ = false
theorem En3.keep {g : Nat} {w w' : World} (h : En3 g w) (hb : w'.heap[g]? = w.heap[g]?) : En3 g w' := by
  obtain ⟨⟨h0, h1, h2⟩, f0, f1, f2⟩ := h
  have hc : ∀ o, w'.cell? ⟨g, o, none⟩ = w.cell? ⟨g, o, none⟩ := fun o => World.cell?_of_block (w := w) (a := ⟨g, o, none⟩) hb
  have hf : ∀ o, w'.frozen? ⟨g, o, none⟩ = w.frozen? ⟨g, o, none⟩ := fun o => World.frozen?_of_block (w := w) (a := ⟨g, o, none⟩) hb
  exact ⟨⟨(hc _).trans h0, (hc _).trans h1, (hc _).trans h2⟩, (hf _).trans f0, (hf _).trans f1, (hf _).trans f2⟩
theorem En3.lt {g : Nat} {w : World} (h : En3 g w) : g < w.heap.size := by
  have h0 := h.1.1
  unfold World.cell? at h0
  cases hb : w.heap[g]? with
  | none => simp [hb] at h0
  | some o => exact (Array.getElem?_eq_some_iff.1 hb).1
end Go.Proofs.YtjibbnknliamkaaGreatDoor
namespace Go.Proofs.YtjibbnknliamkaaGreatDoor
open Go.RowKit
set_option linter.unusedVariables false
set_option linter.unusedSimpArgs false
/-- Of the blocks that there were, block g alone has turned. -/
def One (g : Nat) (w w' : World) : Prop := Below g w w' ∧ w.heap.size ≤ w'.heap.size ∧ ∀ b, b < w.heap.size → b ≠ g → w'.heap[b]? = w.heap[b]?
theorem One.refl (g : Nat) (w : World) : One g w w := ⟨Below.refl _ _, Nat.le_refl _, fun _ _ _ => rfl⟩
theorem One.trans {g : Nat} {w u v : World} (h : One g w u) (k : One g u v) : One g w v := ⟨h.1.trans k.1, Nat.le_trans h.2.1 k.2.1, fun b hb hn => (k.2.2 b (Nat.lt_of_lt_of_le hb h.2.1) hn).trans (h.2.2 b hb hn)⟩
theorem One.set (g o : Nat) (w : World) (v : Value) : One g w (w.setCell ⟨g, o, none⟩ v) := ⟨(Below.refl g w).setCell (p := ⟨g, o, none⟩) (Nat.le_refl _) v, by simp, fun b _ hn => Below.heap_setCell _ ⟨g, o, none⟩ _ _ hn⟩
theorem One.below {g B : Nat} {w w' : World} (h : One g w w') (hB : B ≤ g) : Below B w w' := h.1.mono hB
theorem At3.keep {x : Ent} {b o : Nat} {w w' : World} (h : At3 x b o w) (hb : w'.heap[b]? = w.heap[b]?) : At3 x b o w' :=
  ⟨(World.cell?_of_block (w := w) (a := ⟨b, o, none⟩) hb).trans h.1, (World.cell?_of_block (w := w) (a := ⟨b, o + 1, none⟩) hb).trans h.2.1, (World.cell?_of_block (w := w) (a := ⟨b, o + 2, none⟩) hb).trans h.2.2⟩
end Go.Proofs.YtjibbnknliamkaaGreatDoor
namespace Go.Proofs.YtjibbnknliamkaaGreatDoor
open Go.RowKit
set_option linter.unusedVariables false
/-- The frame but for slot i, which is v, and m slots from j on. -/
def OffX (i j m : Nat) (v : Value) (a a' : Act) : Prop := ∃ us : List Value, us.length = m ∧ a' = ⟨((a.tmps.toList.set i v).take j ++ us ++ a.tmps.toList.drop (j + m)).toArray, a.defers⟩
theorem wp_meetX {P : Program} {s : Code} {Q : Exit → Act → World → Prop} {a : Act} {w : World} (i j m : Nat) (R : Value → World → Prop)
    (first : ∀ G : Act → World → Prop, (∀ a' w' v, OffX i j m v a a' → R v w' → G a' w') → s.wp P (Plain G) a w)
    (rest : ∀ a' w' v, OffX i j m v a a' → R v w' → Q .normal a' w') : s.wp P Q a w := by
  refine wp_mono (first (fun a' w' => ∃ v, OffX i j m v a a' ∧ R v w') (fun _ _ v h1 h2 => ⟨v, h1, h2⟩)) ?_
  intro e a' w' h
  cases e with
  | normal =>
    obtain ⟨v, h1, h2⟩ := h
    exact rest _ _ _ h1 h2
  | _ => exact h.elim
end Go.Proofs.YtjibbnknliamkaaGreatDoor
namespace Go.Proofs.YtjibbnknliamkaaGreatDoor
open Go.RowKit
set_option linter.unusedVariables false
set_option linter.unusedSimpArgs false
section
variable {W : World} {S T : Int} {u : Value} {s : Bool} {S' T' : Int} {u' : Value} {s' : Bool} {w w' : World}
end
section
variable {W : World} {S T : Int} {u : Value} {s : Bool} {S' T' : Int} {u' : Value} {s' : Bool} {L M : List Ent} {la lb : Int} {gs g9 g10 b9 b10 : Nat} {r : Bool} {w w' : World}
end
section
variable {W : World} {S T : Int} {u : Value} {s : Bool} {S' T' : Int} {u' : Value} {s' : Bool} {L M : List Ent} {la lb : Int} {gs g9 g10 b9 b10 : Nat} {r : Bool} {w w' : World} {l : List Nat}
end
theorem At3.new (x : Ent) (w : World) : At3 x w.heap.size 0 (w.alloc (.cells #[.string x.k, .int .i64 x.c, .int .i64 x.e] 64)) := ⟨by go_simp, by go_simp, by go_simp⟩
theorem At3.lt {x : Ent} {b o : Nat} {w : World} (h : At3 x b o w) : b < w.heap.size := by
  have h0 := h.1
  unfold World.cell? at h0
  cases hb : w.heap[b]? with
  | none => simp [hb] at h0
  | some o => exact (Array.getElem?_eq_some_iff.1 hb).1
theorem At3.go {x : Ent} {b o : Nat} {w w' : World} (h : At3 x b o w) (hb : Below w.heap.size w w') : At3 x b o w' := h.below hb h.lt
theorem At3.zero {x : Ent} {b : Nat} {w : World} (h : At3 x b 0 w) : w.cell? ⟨b, 0, none⟩ = some (.string x.k) ∧ w.cell? ⟨b, 1, none⟩ = some (.int .i64 x.c) ∧ w.cell? ⟨b, 2, none⟩ = some (.int .i64 x.e) := h
theorem OwnE.turn {B g : Nat} {L : List Ent} {v : Value} {w w' : World} (h : OwnE B L v w) (ho : One g w w') (hg : g < B) : OwnE B L v w' := by
  obtain ⟨hy, h1, h2⟩ := h
  refine ⟨hy, h1, ?_⟩
  rcases h2 with h2 | ⟨b, cap, cur, rfl, hb', hg', r⟩
  · exact .inl h2
  · exact .inr ⟨b, cap, cur, rfl, hb', (ho.2.2 b (Array.getElem?_eq_some_iff.1 hg').1 (by omega)).trans hg', r⟩
end Go.Proofs.YtjibbnknliamkaaGreatDoor
