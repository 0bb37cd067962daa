/- Merges of summaries, as numbers and lists. No program. -/
import Derived.Test.YtcmekpdgikploaaInsN
namespace Go.Proofs.Ytcmekpdgikploaa
open Go.RowKit
set_option linter.unusedVariables false
set_option linter.unusedSimpArgs false
/-- The bounds of one key in two summaries, added; whether a sum was cut off. -/
def joinE (x y : Ent) : Ent := entOf x.k (tS x.c y.c) (tS x.e y.e)
def joinF (x y : Ent) : Bool := tF x.c y.c || tF x.e y.e
def prA (Lb : List Ent) (lb : Int) (x : Ent) : Ent × Ent := (x, entAt Lb x.k lb)
def prB (La : List Ent) (la : Int) (y : Ent) : Ent × Ent := (entAt La y.k la, y)
/-- The entries of b whose keys have none in a. -/
def newK (La M : List Ent) : List Ent := M.filter (fun y => !hasK La y.k)
def jn (P : List (Ent × Ent)) : List Ent := P.map (fun p => joinE p.1 p.2)
def jf (P : List (Ent × Ent)) : Bool := P.any (fun p => joinF p.1 p.2)
/-- The pairs behind j entries of a; behind all of a and j entries of b. -/
def pA (La Lb : List Ent) (lb : Int) (j : Nat) : List (Ent × Ent) := (La.take j).map (prA Lb lb)
def pB (La Lb : List Ent) (la lb : Int) (j : Nat) : List (Ent × Ent) := La.map (prA Lb lb) ++ (newK La (Lb.take j)).map (prB La la)
def pAB (La Lb : List Ent) (la lb : Int) : List (Ent × Ent) := pB La Lb la lb Lb.length
def merL (S : Int) (La Lb : List Ent) : List Ent := (sortE (jn (pAB La Lb (leastI S La) (leastI S Lb)))).take (min (jn (pAB La Lb (leastI S La) (leastI S Lb))).length S.toNat)
def merE (a b : TP) : Int := if valE a.S a.T a.L ≠ 0 then valE a.S a.T a.L else if valE b.S b.T b.L ≠ 0 then valE b.S b.T b.L else if a.S ≠ b.S then 10 else 0
def merTop (a b : TP) : TP := if merE a b ≠ 0 then TP.none else ⟨a.S, tS a.T b.T, merL a.S a.L b.L, a.s || b.s || jf (pAB a.L b.L (leastI a.S a.L) (leastI a.S b.L)) || tF a.T b.T⟩
theorem pA_zero (La Lb : List Ent) (lb : Int) : pA La Lb lb 0 = [] := by simp [pA]
theorem pA_succ {La : List Ent} (Lb : List Ent) (lb : Int) {j : Nat} (h : j < La.length) : pA La Lb lb (j + 1) = pA La Lb lb j ++ [prA Lb lb (La.getD j Ent.z)] := by
  unfold pA
  rw [take_succE h, List.map_append]
  rfl
theorem pA_all (La Lb : List Ent) (la lb : Int) : pA La Lb lb La.length = pB La Lb la lb 0 := by simp [pA, pB, newK]
theorem pB_old {La Lb : List Ent} (la lb : Int) {j : Nat} (h : j < Lb.length) (hk : hasK La (Lb.getD j Ent.z).k = true) : pB La Lb la lb (j + 1) = pB La Lb la lb j := by
  unfold pB newK
  rw [take_succE h, List.filter_append]
  generalize Lb.getD j Ent.z = y at *
  simp [hk]
theorem pB_new {La Lb : List Ent} (la lb : Int) {j : Nat} (h : j < Lb.length) (hk : hasK La (Lb.getD j Ent.z).k = false) : pB La Lb la lb (j + 1) = pB La Lb la lb j ++ [prB La la (Lb.getD j Ent.z)] := by
  unfold pB newK
  rw [take_succE h, List.filter_append]
  generalize Lb.getD j Ent.z = y at *
  simp [hk]
theorem jn_app (P : List (Ent × Ent)) (p : Ent × Ent) : jn (P ++ [p]) = jn P ++ [joinE p.1 p.2] := by simp [jn]
theorem jf_app (P : List (Ent × Ent)) (p : Ent × Ent) : jf (P ++ [p]) = (jf P || joinF p.1 p.2) := by simp [jf]
theorem jn_len (P : List (Ent × Ent)) : (jn P).length = P.length := by simp [jn]
theorem pA_len (La Lb : List Ent) (lb : Int) (j : Nat) : (pA La Lb lb j).length ≤ La.length := by
  unfold pA
  rw [List.length_map, List.length_take]
  omega
theorem pB_len (La Lb : List Ent) (la lb : Int) (j : Nat) : (pB La Lb la lb j).length ≤ La.length + Lb.length := by
  unfold pB newK
  rw [List.length_append, List.length_map, List.length_map]
  have := List.length_filter_le (fun y => !hasK La y.k) (Lb.take j)
  have : (Lb.take j).length ≤ Lb.length := by rw [List.length_take]; omega
  omega
theorem entAt_key (L : List Ent) (k : ByteArray) (l : Int) : (entAt L k l).k = k := by
  unfold entAt
  split
  · rename_i h
    rcases findI_cases L k with ⟨_, j, _, e, hs⟩ | ⟨h', _⟩
    · rw [e, Int.toNat_natCast]
      exact (sameK_iff _ _).1 hs
    · rw [h] at h'; cases h'
  · rfl
theorem entAt_ok {L : List Ent} (h : EOk L) {k : ByteArray} (hk : k.size ≤ maxLen) {l : Int} (hl : -9223372036854775808 ≤ l ∧ l ≤ 9223372036854775807) : (entAt L k l).ok := by
  unfold entAt
  split
  · exact h.at_ _
  · exact ⟨hk, hl, hl⟩
/-- An entry of a list without repetition is found by its key. -/
theorem entAt_self {L : List Ent} (ho : OneL L) {i : Nat} (hi : i < L.length) (l : Int) : entAt L (L.getD i Ent.z).k l = L.getD i Ent.z := by
  unfold entAt
  rcases findI_cases L (L.getD i Ent.z).k with ⟨h, j, hj, e, hs⟩ | ⟨h, _⟩
  · rw [if_pos h, e, Int.toNat_natCast, ho.inj hj hi hs (sameK_self _)]
  · have := hasK_of (L := L) (j := L.length) hi (Nat.le_refl _) (sameK_self (L.getD i Ent.z).k)
    rw [List.take_length, h] at this
    cases this
theorem joinE_ok {x y : Ent} (hx : x.k.size ≤ maxLen) : (joinE x y).ok := by
  have h1 := tS_bd x.c y.c
  have h2 := tS_bd x.e y.e
  exact entOf_ok hx (by omega) (by omega) (by omega) (by omega)
theorem joinE_key (x y : Ent) : (joinE x y).k = x.k := rfl
theorem leastI_bd {S : Int} {L : List Ent} (h : EOk L) : -9223372036854775808 ≤ leastI S L ∧ leastI S L ≤ 9223372036854775807 := by
  unfold leastI
  split
  · omega
  · exact (h.at_ _).2.1
theorem hasK_app (L M : List Ent) (k : ByteArray) : hasK (L ++ M) k = (hasK L k || hasK M k) := by simp [hasK]
theorem hasK_map {L : List Ent} {f : Ent → Ent × Ent} (hf : ∀ x ∈ L, (f x).1.k = x.k) (k : ByteArray) : hasK (jn (L.map f)) k = hasK L k := by
  unfold hasK jn
  rw [List.map_map, List.any_map]
  induction L with
  | nil => rfl
  | cons x L ih =>
    rw [List.any_cons, List.any_cons, ih (fun y hy => hf y (List.mem_cons_of_mem _ hy))]
    have := hf x (List.mem_cons_self ..)
    simp only [Function.comp, joinE_key, this]
theorem hasK_pA (La Lb : List Ent) (lb : Int) (j : Nat) (k : ByteArray) : hasK (jn (pA La Lb lb j)) k = hasK (La.take j) k := hasK_map (fun x _ => rfl) k
theorem hasK_newK (La M : List Ent) {k : ByteArray} (h : hasK La k = false) : hasK (newK La M) k = hasK M k := by
  unfold newK
  induction M with
  | nil => rfl
  | cons y M ih =>
    rw [List.filter_cons]
    cases hy : hasK La y.k with
    | true =>
      rw [if_neg (by simp), ih]
      show _ = (sameK y.k k || hasK M k)
      have : sameK y.k k = false := by
        cases hs : sameK y.k k with
        | true => rw [(sameK_iff _ _).1 hs, h] at hy; cases hy
        | false => rfl
      rw [this, Bool.false_or]
    | false =>
      rw [if_pos (by simp)]
      show (sameK y.k k || hasK _ k) = (sameK y.k k || hasK M k)
      rw [ih]
theorem hasK_pB (La Lb : List Ent) (la lb : Int) (j : Nat) (k : ByteArray) : hasK (jn (pB La Lb la lb j)) k = (hasK La k || hasK (Lb.take j) k) := by
  unfold pB
  have e : jn (La.map (prA Lb lb) ++ (newK La (Lb.take j)).map (prB La la)) = jn (La.map (prA Lb lb)) ++ jn ((newK La (Lb.take j)).map (prB La la)) := by simp [jn]
  rw [e, hasK_app, hasK_map (fun x _ => rfl), hasK_map (fun y _ => entAt_key _ _ _)]
  cases h : hasK La k with
  | true => rfl
  | false => rw [hasK_newK La _ h]
theorem EOk.jn {P : List (Ent × Ent)} (h : ∀ p ∈ P, p.1.k.size ≤ maxLen) : EOk (jn P) := fun x hx => by
  unfold Go.Proofs.Ytcmekpdgikploaa.jn at hx
  obtain ⟨p, hp, rfl⟩ := List.mem_map.1 hx
  exact joinE_ok (h p hp)
theorem merL_len {S : Int} (La Lb : List Ent) : (merL S La Lb).length ≤ La.length + Lb.length := by
  unfold merL
  rw [List.length_take, sortE_len, jn_len]
  have := pB_len La Lb (leastI S La) (leastI S Lb) Lb.length
  unfold pAB
  omega
theorem merTop_len (a b : TP) : (merTop a b).L.length ≤ a.L.length + b.L.length := by
  unfold merTop
  split
  · simp [TP.none]
  · exact merL_len _ _
end Go.Proofs.Ytcmekpdgikploaa
