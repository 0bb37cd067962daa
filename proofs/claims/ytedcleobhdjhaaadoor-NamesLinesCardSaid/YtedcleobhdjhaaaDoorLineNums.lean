/- Lines and fields over lists of bytes: no function of the program. -/
import Derived.Test.YtedcleobhdjhaaaDoorStrRow
import Derived.Test.YtedcleobhdjhaaaDoorParse
import Derived.Lib.SplitLaws
namespace Go.Proofs.YtedcleobhdjhaaaDoor
open Go.RowKit
set_option linter.unusedVariables false
set_option linter.unusedSimpArgs false
def emitL (cur : List Int) : List (List Int) := if cur = [] then [] else [cur]
def linesG (cur : List Int) : List Int → List (List Int)
  | [] => emitL cur
  | c :: r => if c = 10 then cur :: linesG [] r else linesG (cur ++ [c]) r
def fieldsG (cur : List Int) : List Int → List (List Int)
  | [] => emitL cur
  | c :: r => if c = 35 then emitL cur else if c = 32 then emitL cur ++ fieldsG [] r else fieldsG (cur ++ [c]) r
/-- The maximal parts without a blank. -/
def wordsG (cur : List Int) : List Int → List (List Int)
  | [] => emitL cur
  | c :: r => if c = 32 then emitL cur ++ wordsG [] r else wordsG (cur ++ [c]) r
theorem linesG_hit : ∀ (A : List Int) (cur R : List Int), 10 ∉ A → linesG cur (A ++ 10 :: R) = (cur ++ A) :: linesG [] R
  | [], cur, R, _ => by simp [linesG]
  | a :: A, cur, R, h => by
    have ha : ¬ a = 10 := fun e => h (by simp [e])
    rw [List.cons_append, linesG, if_neg ha, linesG_hit A (cur ++ [a]) R (fun hm => h (by simp [hm]))]
    simp
theorem linesG_miss : ∀ (A : List Int) (cur : List Int), 10 ∉ A → linesG cur A = emitL (cur ++ A)
  | [], cur, _ => by simp [linesG]
  | a :: A, cur, h => by
    have ha : ¬ a = 10 := fun e => h (by simp [e])
    rw [linesG, if_neg ha, linesG_miss A (cur ++ [a]) (fun hm => h (by simp [hm]))]
    simp
theorem wordsG_hit : ∀ (A : List Int) (cur R : List Int), 32 ∉ A → wordsG cur (A ++ 32 :: R) = emitL (cur ++ A) ++ wordsG [] R
  | [], cur, R, _ => by simp [wordsG]
  | a :: A, cur, R, h => by
    have ha : ¬ a = 32 := fun e => h (by simp [e])
    rw [List.cons_append, wordsG, if_neg ha, wordsG_hit A (cur ++ [a]) R (fun hm => h (by simp [hm]))]
    simp
theorem wordsG_miss : ∀ (A : List Int) (cur : List Int), 32 ∉ A → wordsG cur A = emitL (cur ++ A)
  | [], cur, _ => by simp [wordsG]
  | a :: A, cur, h => by
    have ha : ¬ a = 32 := fun e => h (by simp [e])
    rw [wordsG, if_neg ha, wordsG_miss A (cur ++ [a]) (fun hm => h (by simp [hm]))]
    simp
theorem fieldsG_hit : ∀ (A : List Int) (cur R : List Int), 35 ∉ A → fieldsG cur (A ++ 35 :: R) = wordsG cur A
  | [], cur, R, _ => by simp [fieldsG, wordsG]
  | a :: A, cur, R, h => by
    have ha : ¬ a = 35 := fun e => h (by simp [e])
    have hA : 35 ∉ A := fun hm => h (by simp [hm])
    rw [List.cons_append, fieldsG, if_neg ha, wordsG]
    split
    · rw [fieldsG_hit A [] R hA]
    · rw [fieldsG_hit A (cur ++ [a]) R hA]
theorem fieldsG_miss : ∀ (A : List Int) (cur : List Int), 35 ∉ A → fieldsG cur A = wordsG cur A
  | [], cur, _ => by simp [fieldsG, wordsG]
  | a :: A, cur, h => by
    have ha : ¬ a = 35 := fun e => h (by simp [e])
    have hA : 35 ∉ A := fun hm => h (by simp [hm])
    rw [fieldsG, if_neg ha, wordsG]
    split
    · rw [fieldsG_miss A [] hA]
    · rw [fieldsG_miss A (cur ++ [a]) hA]
/-- A list at the first of its numbers c. -/
theorem first_at (c : Int) : ∀ L : List Int, c ∉ L ∨ ∃ A R, L = A ++ c :: R ∧ c ∉ A
  | [] => .inl (by simp)
  | a :: L => by
    by_cases h : a = c
    · subst h; exact .inr ⟨[], L, rfl, by simp⟩
    · rcases first_at c L with h1 | ⟨A, R, rfl, h1⟩
      · exact .inl (by simp [h1]; exact fun e => h e.symm)
      · exact .inr ⟨a :: A, R, rfl, by simp [h1]; exact fun e => h e.symm⟩
theorem index_hit : ∀ (A R : List UInt8) (c : UInt8), c ∉ A → Lib.indexByte (A ++ c :: R) c = (A.length : Int)
  | [], R, c, _ => by simp [Lib.indexByte]
  | a :: A, R, c, h => by
    have ha : ¬ a = c := fun e => h (by simp [e])
    have ih := index_hit A R c (fun hm => h (by simp [hm]))
    have h1 : ¬ ((A.length : Int) = -1) := by omega
    simp [Lib.indexByte, ha, ih, h1]
theorem index_miss : ∀ (A : List UInt8) (c : UInt8), c ∉ A → Lib.indexByte A c = -1
  | [], c, _ => rfl
  | a :: A, c, h => by
    have ha : ¬ a = c := fun e => h (by simp [e])
    simp [Lib.indexByte, ha, index_miss A c (fun hm => h (by simp [hm]))]
theorem byt_mem {s : ByteArray} {c : UInt8} : (c.toNat : Int) ∈ byt s ↔ c ∈ s.data.toList := by
  unfold byt
  rw [List.mem_map]
  constructor
  · rintro ⟨b, hb, e⟩
    have : b = c := UInt8.toNat_inj.1 (by omega)
    subst this; exact hb
  · intro h; exact ⟨c, h, rfl⟩
/-- The index of a byte, over the list of numbers. -/
theorem idx_hit {s : ByteArray} {c : UInt8} {A R : List Int} (h : byt s = A ++ (c.toNat : Int) :: R) (hA : (c.toNat : Int) ∉ A) : Lib.indexByte s.data.toList c = (A.length : Int) := by
  have e : s.data.toList = s.data.toList.take A.length ++ c :: s.data.toList.drop (A.length + 1) := by
    have hl : A.length < s.data.toList.length := by
      have := congrArg List.length h
      unfold byt at this
      rw [List.length_map, List.length_append, List.length_cons] at this
      omega
    have hc : s.data.toList[A.length] = c := by
      have h2 : (byt s)[A.length]? = some (c.toNat : Int) := by rw [h]; simp
      unfold byt at h2
      rw [List.getElem?_map, List.getElem?_eq_getElem hl] at h2
      simp only [Option.map_some, Option.some.injEq] at h2
      exact UInt8.toNat_inj.1 (by omega)
    have := List.take_append_drop A.length s.data.toList
    rw [List.drop_eq_getElem_cons hl, hc] at this
    exact this.symm
  have hA' : c ∉ s.data.toList.take A.length := fun hm => hA (by
    have : (c.toNat : Int) ∈ (s.data.toList.take A.length).map fun b => (b.toNat : Int) := List.mem_map.2 ⟨c, hm, rfl⟩
    rw [List.map_take] at this
    have e2 : (s.data.toList.map fun b => (b.toNat : Int)) = byt s := rfl
    rw [e2, h, List.take_left' rfl] at this
    exact this)
  have hl2 : (s.data.toList.take A.length).length = A.length := by
    rw [List.length_take]
    have := congrArg List.length h
    unfold byt at this
    rw [List.length_map, List.length_append, List.length_cons] at this
    omega
  rw [e, index_hit _ _ c hA', hl2]
theorem idx_miss {s : ByteArray} {c : UInt8} (h : (c.toNat : Int) ∉ byt s) : Lib.indexByte s.data.toList c = -1 :=
  index_miss _ c (fun hm => h (byt_mem.2 hm))
theorem ext_take {s : ByteArray} {A R : List Int} {c : Int} (h : byt s = A ++ c :: R) : s.extract 0 A.length = strOfNums A := by
  apply byt_inj
  have hy : Byt A := fun n hn => byt_byt s n (by rw [h]; simp [hn])
  rw [byt_extract, h, byt_str hy]
  simp
theorem ext_rest {s : ByteArray} {A R : List Int} {c : Int} (h : byt s = A ++ c :: R) : s.extract (A.length + 1) s.size = strOfNums R := by
  apply byt_inj
  have hy : Byt R := fun n hn => byt_byt s n (by rw [h]; simp [hn])
  have hl : s.size = A.length + 1 + R.length := by rw [← byt_len, h]; simp; omega
  rw [byt_extract, h, byt_str hy, hl]
  have : A ++ c :: R = (A ++ [c]) ++ R := by simp
  rw [this, List.drop_left' (by simp)]
  exact List.take_of_length_le (by omega)
/-- The pieces between blanks, the empty ones left out, are the words. -/
theorem split_words : ∀ (k : Nat) (s : ByteArray), s.data.toList.count 32 ≤ k → ((Lib.splitB ⟨#[32]⟩ 0 k s).map byt).filter (fun x => decide (x ≠ [])) = wordsG [] (byt s)
  | 0, s, h => by
    have hm : (32 : Int) ∉ byt s := fun hm => by
      have := byt_mem (c := 32).1 hm
      have := List.count_pos_iff.2 this
      omega
    rw [Lib.splitB_zero, wordsG_miss _ _ hm]
    simp only [List.map_cons, List.map_nil, List.nil_append, emitL]
    by_cases he : byt s = [] <;> simp [he]
  | k + 1, s, h => by
    rcases first_at 32 (byt s) with hm | ⟨A, R, hs, hA⟩
    · have hi : Lib.indexB s ⟨#[32]⟩ = -1 := by
        show Lib.index s.data.toList [32] = -1
        rw [Lib.index_one]; exact idx_miss hm
      rw [Lib.splitB_miss _ _ _ _ hi, wordsG_miss _ _ hm]
      simp only [List.map_cons, List.map_nil, List.nil_append, emitL]
      by_cases he : byt s = [] <;> simp [he]
    · have hi : Lib.indexB s ⟨#[32]⟩ = (A.length : Int) := by
        show Lib.index s.data.toList [32] = _
        rw [Lib.index_one]; exact idx_hit (c := 32) hs hA
      have hyA : Byt A := fun n hn => byt_byt s n (by rw [hs]; simp [hn])
      have hyR : Byt R := fun n hn => byt_byt s n (by rw [hs]; simp [hn])
      have hcR : (strOfNums R).data.toList.count 32 ≤ k := by
        have e1 : ∀ t : ByteArray, t.data.toList.count 32 = (byt t).count 32 := fun t => by
          unfold byt
          generalize t.data.toList = l
          induction l with
          | nil => rfl
          | cons b l ih =>
            rw [List.map_cons, List.count_cons, List.count_cons, ih]
            congr 1
            by_cases hb : b = 32
            · subst hb; rfl
            · have : ¬ ((b.toNat : Int) = 32) := fun e => hb (UInt8.toNat_inj.1 (by show b.toNat = 32; omega))
              rw [beq_eq_false_iff_ne.2 hb, beq_eq_false_iff_ne.2 this]
        rw [e1, hs, List.count_append, List.count_cons] at h
        rw [e1, byt_str hyR]
        simp at h
        omega
      rw [Lib.splitB_hit _ _ _ _ _ hi, Nat.add_zero]
      have es : (⟨#[32]⟩ : ByteArray).size = 1 := rfl
      rw [es, ext_take hs, ext_rest hs]
      rw [List.map_cons, byt_str hyA, List.filter_cons, split_words k _ hcR, byt_str hyR, hs, wordsG_hit _ _ _ hA, List.nil_append]
      by_cases he : A = [] <;> simp [he, emitL]
end Go.Proofs.YtedcleobhdjhaaaDoor
