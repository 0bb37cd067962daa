/- Rank summaries as numbers and lists; what makes one valid. No program. -/
import Derived.Test.YtdifilhfmbpalaaDoorSrtK
namespace Go.Proofs.YtdifilhfmbpalaaDoor
open Go.RowKit
set_option linter.unusedVariables false
set_option linter.unusedSimpArgs false
structure RK where
  S : Int
  T : Int
  K : Int
  L : List (List ByteArray)
  s : Bool
def RK.none : RK := ⟨0, 0, 0, [], false⟩
def WfR (t : RK) : Prop := (-9223372036854775808 ≤ t.S ∧ t.S ≤ 9223372036854775807) ∧ (-9223372036854775808 ≤ t.T ∧ t.T ≤ 9223372036854775807) ∧ (-9223372036854775808 ≤ t.K ∧ t.K ≤ 9223372036854775807)
/-- A sum cut off, and whether it was. -/
def aS (a b : Int) : Int := satN (nat0 a + nat0 b) 1099511627776
def aF (a b : Int) : Bool := satF (nat0 a + nat0 b) 1099511627776
theorem aS_bd (a b : Int) : 0 ≤ aS a b ∧ aS a b ≤ 1099511627776 := by unfold aS satN nat0; split <;> omega
/-- What is wrong with a key behind p. -/
def keyE (p x : ByteArray) : Int := if keyB (byt x) = false then 7 else if lessK x p = true then 19 else 0
def lvgo : ByteArray → List ByteArray → Int
  | _, [] => 0
  | p, x :: l => if keyE p x ≠ 0 then keyE p x else lvgo x l
/-- What is wrong with a level. -/
def lvlE (S : Int) (l : List ByteArray) : Int := if S ≤ (l.length : Int) then 11 else lvgo ⟨#[]⟩ l
def lvsE (S : Int) : List (List ByteArray) → Int
  | [] => 0
  | l :: L => if lvlE S l ≠ 0 then lvlE S l else lvsE S L
/-- How many insertions the levels from i on stand for. -/
def insN : Nat → List (List ByteArray) → Nat
  | _, [] => 0
  | i, l :: L => l.length * 2 ^ i + insN (i + 1) L
def szR (S : Int) : Bool := decide (2 ≤ S) && decide (S ≤ 32) && decide (S % 2 = 0)
def ttR (T : Int) : Bool := decide (0 ≤ T) && decide (T ≤ 1099511627776)
def parR (S T K : Int) : Bool := szR S && ttR T && ttR K
/-- The last level is empty. -/
def lastE (L : List (List ByteArray)) : Bool := decide (0 < L.length) && decide ((L.getD (L.length - 1) []).length = 0)
def valR (S T K : Int) (L : List (List ByteArray)) : Int :=
  if parR S T K = false then 5 else if 41 < L.length then 11 else if lvsE S L ≠ 0 then lvsE S L else if lastE L = true then 18 else if (insN 0 L : Int) ≠ T then 17 else 0
/-- A level in order. -/
def GdL (S : Int) (l : List ByteArray) : Prop := (l.length : Int) < S ∧ (∀ x ∈ l, keyB (byt x) = true) ∧ Asc l
structure ValR (S T K : Int) (L : List (List ByteArray)) : Prop where
  s0 : 2 ≤ S
  s1 : S ≤ 32
  ev : S % 2 = 0
  t0 : 0 ≤ T
  t1 : T ≤ 1099511627776
  k0 : 0 ≤ K
  k1 : K ≤ 1099511627776
  nl : L.length ≤ 41
  lv : ∀ l ∈ L, GdL S l
  ne : lastE L = false
  sum : (insN 0 L : Int) = T
theorem keyE_cases (p x : ByteArray) : keyE p x = 0 ∨ keyE p x = 7 ∨ keyE p x = 19 := by
  unfold keyE
  split
  · exact .inr (.inl rfl)
  · split
    · exact .inr (.inr rfl)
    · exact .inl rfl
theorem keyE_zero {p x : ByteArray} (h : keyE p x = 0) : keyB (byt x) = true ∧ lessK x p = false := by
  unfold keyE at h
  cases hk : keyB (byt x) with
  | false => rw [hk, if_pos rfl] at h; cases h
  | true =>
    rw [hk, if_neg (by simp)] at h
    cases hl : lessK x p with
    | true => rw [hl, if_pos rfl] at h; cases h
    | false => exact ⟨rfl, rfl⟩
theorem keyE_of {p x : ByteArray} (h : keyB (byt x) = true) (k : lessK x p = false) : keyE p x = 0 := by
  unfold keyE
  rw [h, k]
  simp
theorem lvgo_zero : ∀ {l : List ByteArray} {p : ByteArray}, lvgo p l = 0 → (∀ x ∈ l, keyB (byt x) = true) ∧ Asc l ∧ ∀ x ∈ l, lessK x p = false
  | [], _, _ => ⟨by simp, List.Pairwise.nil, by simp⟩
  | x :: l, p, h => by
    unfold lvgo at h
    by_cases he : keyE p x = 0
    · rw [if_neg (by simpa using he)] at h
      obtain ⟨h1, h2, h3⟩ := lvgo_zero h
      have hk := keyE_zero he
      refine ⟨fun y hy => ?_, List.pairwise_cons.2 ⟨h3, h2⟩, fun y hy => ?_⟩
      · rcases List.mem_cons.1 hy with rfl | hy
        · exact hk.1
        · exact h1 y hy
      · rcases List.mem_cons.1 hy with rfl | hy
        · exact hk.2
        · exact leK_trans hk.2 (h3 y hy)
    · rw [if_pos he] at h
      exact absurd h he
theorem lvgo_of : ∀ {l : List ByteArray} {p : ByteArray}, (∀ x ∈ l, keyB (byt x) = true) → Asc l → (∀ x ∈ l, lessK x p = false) → lvgo p l = 0
  | [], _, _, _, _ => rfl
  | x :: l, p, h1, h2, h3 => by
    unfold lvgo
    rw [keyE_of (h1 x (by simp)) (h3 x (by simp)), if_neg (by simp)]
    have h2 := List.pairwise_cons.1 h2
    exact lvgo_of (fun y hy => h1 y (by simp [hy])) h2.2 (fun y hy => h2.1 y hy)
theorem lvlE_zero {S : Int} {l : List ByteArray} (h : lvlE S l = 0) : GdL S l := by
  unfold lvlE at h
  by_cases hs : S ≤ (l.length : Int)
  · rw [if_pos hs] at h; cases h
  · rw [if_neg hs] at h
    have h1 := lvgo_zero h
    exact ⟨by omega, h1.1, h1.2.1⟩
theorem lvlE_of {S : Int} {l : List ByteArray} (h : GdL S l) : lvlE S l = 0 := by
  unfold lvlE
  have h1 := h.1
  rw [if_neg (by omega)]
  exact lvgo_of h.2.1 h.2.2 (fun x _ => lessK_zero x)
theorem lvsE_zero {S : Int} : ∀ {L : List (List ByteArray)}, lvsE S L = 0 → ∀ l ∈ L, GdL S l
  | [], _ => by simp
  | l :: L, h => by
    unfold lvsE at h
    by_cases he : lvlE S l = 0
    · rw [if_neg (by simpa using he)] at h
      intro m hm
      rcases List.mem_cons.1 hm with rfl | hm
      · exact lvlE_zero he
      · exact lvsE_zero h m hm
    · rw [if_pos he] at h
      exact absurd h he
theorem lvsE_of {S : Int} : ∀ {L : List (List ByteArray)}, (∀ l ∈ L, GdL S l) → lvsE S L = 0
  | [], _ => rfl
  | l :: L, h => by
    unfold lvsE
    rw [lvlE_of (h l (by simp)), if_neg (by simp)]
    exact lvsE_of (fun m hm => h m (by simp [hm]))
theorem szR_iff (S : Int) : szR S = true ↔ 2 ≤ S ∧ S ≤ 32 ∧ S % 2 = 0 := by unfold szR; simp [and_assoc]
theorem ttR_iff (T : Int) : ttR T = true ↔ 0 ≤ T ∧ T ≤ 1099511627776 := by unfold ttR; simp
theorem parR_iff (S T K : Int) : parR S T K = true ↔ (2 ≤ S ∧ S ≤ 32 ∧ S % 2 = 0) ∧ (0 ≤ T ∧ T ≤ 1099511627776) ∧ (0 ≤ K ∧ K ≤ 1099511627776) := by
  unfold parR
  rw [Bool.and_eq_true, Bool.and_eq_true, szR_iff, ttR_iff, ttR_iff, and_assoc]
theorem valR_ok {S T K : Int} {L : List (List ByteArray)} (h : valR S T K L = 0) : ValR S T K L := by
  unfold valR at h
  cases hp : parR S T K with
  | false => rw [hp, if_pos rfl] at h; cases h
  | true =>
    rw [hp, if_neg (by simp)] at h
    obtain ⟨⟨p1, p2, p3⟩, ⟨p4, p5⟩, p6, p7⟩ := (parR_iff S T K).1 hp
    by_cases h2 : 41 < L.length
    · rw [if_pos h2] at h; cases h
    · rw [if_neg h2] at h
      by_cases h3 : lvsE S L = 0
      · rw [if_neg (by simpa using h3)] at h
        cases h4 : lastE L with
        | true => rw [h4, if_pos rfl] at h; cases h
        | false =>
          rw [h4, if_neg (by simp)] at h
          by_cases h5 : (insN 0 L : Int) = T
          · exact ⟨p1, p2, p3, p4, p5, p6, p7, by omega, lvsE_zero h3, h4, h5⟩
          · rw [if_pos h5] at h; cases h
      · rw [if_pos h3] at h
        exact absurd h h3
theorem valR_of {S T K : Int} {L : List (List ByteArray)} (h : ValR S T K L) : valR S T K L = 0 := by
  obtain ⟨p1, p2, p3, p4, p5, p6, p7, h2, h3, h4, h5⟩ := h
  unfold valR
  rw [(parR_iff S T K).2 ⟨⟨p1, p2, p3⟩, ⟨p4, p5⟩, p6, p7⟩, if_neg (by simp), if_neg (by omega), if_neg (by simpa using lvsE_of h3), h4, if_neg (by simp), if_neg (by simpa using h5)]
theorem lvgo_bd : ∀ (l : List ByteArray) (p : ByteArray), 0 ≤ lvgo p l ∧ lvgo p l ≤ 19
  | [], _ => by unfold lvgo; omega
  | x :: l, p => by
    unfold lvgo
    split
    · rcases keyE_cases p x with h | h | h <;> omega
    · exact lvgo_bd l x
theorem lvlE_bd (S : Int) (l : List ByteArray) : 0 ≤ lvlE S l ∧ lvlE S l ≤ 19 := by
  unfold lvlE
  have := lvgo_bd l ⟨#[]⟩
  split <;> omega
theorem lvsE_bd (S : Int) : ∀ L : List (List ByteArray), 0 ≤ lvsE S L ∧ lvsE S L ≤ 19
  | [] => by unfold lvsE; omega
  | l :: L => by
    unfold lvsE
    split
    · exact lvlE_bd S l
    · exact lvsE_bd S L
theorem valR_bd (S T K : Int) (L : List (List ByteArray)) : 0 ≤ valR S T K L ∧ valR S T K L ≤ 19 := by
  have := lvsE_bd S L
  unfold valR
  repeat' split
  all_goals omega
theorem insN_app : ∀ (L M : List (List ByteArray)) (i : Nat), insN i (L ++ M) = insN i L + insN (i + L.length) M
  | [], M, i => by simp [insN]
  | l :: L, M, i => by
    have := insN_app L M (i + 1)
    simp only [List.cons_append, insN, this, List.length_cons]
    rw [show i + 1 + L.length = i + (L.length + 1) by omega]
    omega
theorem insN_bd : ∀ (L : List (List ByteArray)) (i m : Nat), (∀ l ∈ L, l.length ≤ m) → insN i L + m * 2 ^ i ≤ m * 2 ^ (i + L.length)
  | [], i, m, _ => by simp [insN]
  | l :: L, i, m, h => by
    have h1 := insN_bd L (i + 1) m (fun x hx => h x (by simp [hx]))
    have h2 := Nat.mul_le_mul_right (2 ^ i) (h l (by simp))
    simp only [insN, List.length_cons]
    rw [show i + (L.length + 1) = i + 1 + L.length by omega]
    have e : m * 2 ^ (i + 1) = m * 2 ^ i + m * 2 ^ i := by rw [Nat.pow_succ, ← Nat.mul_assoc]; omega
    omega
theorem getD_mem {α : Type} {L : List α} {d : α} {k : Nat} (h : k < L.length) : L.getD k d ∈ L := by
  rw [show L.getD k d = L[k] by simp [List.getD, h]]
  exact List.getElem_mem h
theorem drop_getD {α : Type} {L : List α} {d : α} {k : Nat} (h : k < L.length) : L.drop k = L.getD k d :: L.drop (k + 1) := by
  rw [List.drop_eq_getElem_cons h]
  simp [List.getD, h]
theorem take_getD {α : Type} {L : List α} {d : α} {k : Nat} (h : k < L.length) : L.take (k + 1) = L.take k ++ [L.getD k d] := by
  rw [List.take_succ_eq_append_getElem h]
  simp [List.getD, h]
theorem insN_take {L : List (List ByteArray)} {k : Nat} (h : k < L.length) : insN 0 (L.take (k + 1)) = insN 0 (L.take k) + (L.getD k []).length * 2 ^ k := by
  rw [take_getD (d := []) h, insN_app]
  simp [insN, List.length_take, Nat.min_eq_left (Nat.le_of_lt h)]
/-- A last level with a key weighs. -/
theorem last_le : ∀ {L : List (List ByteArray)} {i : Nat}, lastE L = false → 0 < L.length → 2 ^ (i + L.length - 1) ≤ insN i L
  | [l], i, h, _ => by
    have hl : 0 < l.length := by
      unfold lastE at h
      simp at h
      cases l with
      | nil => simp at h
      | cons x l => simp
    simp only [insN, List.length_singleton, Nat.add_sub_cancel]
    have := Nat.mul_le_mul_right (2 ^ i) hl
    omega
  | l :: m :: L, i, h, _ => by
    have h2 : lastE (m :: L) = false := by
      unfold lastE at h ⊢
      simpa using h
    have := last_le (i := i + 1) h2 (by simp)
    simp only [insN, List.length_cons] at this ⊢
    rw [show i + (L.length + 1 + 1) - 1 = i + 1 + (L.length + 1) - 1 by omega]
    omega
end Go.Proofs.YtdifilhfmbpalaaDoor
