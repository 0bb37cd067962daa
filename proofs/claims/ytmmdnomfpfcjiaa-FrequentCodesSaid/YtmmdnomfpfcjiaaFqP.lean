/- Two lists of entries in ascending order of keys, put together; counts lowered; what the counts exceed. No program. -/
import Derived.Test.YtmmdnomfpfcjiaaFqO
import Derived.Test.YtmmdnomfpfcjiaaSrtI
import Derived.Test.YtmmdnomfpfcjiaaSat
namespace Go.Proofs.Ytmmdnomfpfcjiaa
open Go.RowKit
set_option linter.unusedVariables false
set_option linter.unusedSimpArgs false
/-- A sum up to the greatest total, and whether it was cut off. -/
def tS (a b : Int) : Int := satN (nat0 a + nat0 b) 1099511627776
def tF (a b : Int) : Bool := satF (nat0 a + nat0 b) 1099511627776
theorem tS_bd (a b : Int) : 0 ≤ tS a b ∧ tS a b ≤ 1099511627776 := by unfold tS satN nat0; split <;> omega
theorem tS_comm (a b : Int) : tS a b = tS b a := by unfold tS; rw [Int.add_comm]
theorem tF_comm (a b : Int) : tF a b = tF b a := by unfold tF; rw [Int.add_comm]
theorem tS_zero {a : Int} (h0 : 0 ≤ a) (h1 : a ≤ 1099511627776) : tS a 0 = a ∧ tF a 0 = false := by
  unfold tS tF satN satF nat0
  constructor
  · split <;> omega
  · simp; omega
/-- Ascending keys. -/
def AscK (L : List Ent) : Prop := L.Pairwise (fun x y => lessK x.k y.k = true)
def addE (x y : Ent) : Ent := ⟨x.k, tS x.c y.c, 0⟩
/-- The entries of both. -/
def unL : List Ent → List Ent → List Ent
  | [], M => M
  | x :: L, [] => x :: L
  | x :: L, y :: M => if lessK x.k y.k = true then x :: unL L (y :: M) else if lessK y.k x.k = true then y :: unL (x :: L) M else addE x y :: unL L M
termination_by L M => L.length + M.length
/-- Whether a sum was cut off. -/
def unF : List Ent → List Ent → Bool
  | [], M => false
  | x :: L, [] => false
  | x :: L, y :: M => if lessK x.k y.k = true then unF L (y :: M) else if lessK y.k x.k = true then unF (x :: L) M else (tF x.c y.c || unF L M)
termination_by L M => L.length + M.length
theorem unL_nil_left (M : List Ent) : unL [] M = M := by unfold unL; rfl
theorem unL_nil_right (L : List Ent) : unL L [] = L := by
  cases L <;> (unfold unL; rfl)
theorem unF_nil_left (M : List Ent) : unF [] M = false := by unfold unF; rfl
theorem unF_nil_right (L : List Ent) : unF L [] = false := by
  cases L <;> (unfold unF; rfl)
theorem unL_cons (x y : Ent) (L M : List Ent) : unL (x :: L) (y :: M) = if lessK x.k y.k = true then x :: unL L (y :: M) else if lessK y.k x.k = true then y :: unL (x :: L) M else addE x y :: unL L M := by
  conv => lhs; unfold unL
theorem unF_cons (x y : Ent) (L M : List Ent) : unF (x :: L) (y :: M) = if lessK x.k y.k = true then unF L (y :: M) else if lessK y.k x.k = true then unF (x :: L) M else (tF x.c y.c || unF L M) := by
  conv => lhs; unfold unF
theorem addE_ok {x y : Ent} (h : x.ok) : (addE x y).ok := ⟨h.1, by have := tS_bd x.c y.c; unfold addE; dsimp only; omega, by unfold addE; dsimp only; omega⟩
theorem unL_ok : ∀ {L M : List Ent}, EOk L → EOk M → EOk (unL L M)
  | [], M, _, hm => by rw [unL_nil_left]; exact hm
  | x :: L, [], hl, _ => by rw [unL_nil_right]; exact hl
  | x :: L, y :: M, hl, hm => by
    have hx : x.ok := hl x (by simp)
    have hy : y.ok := hm y (by simp)
    have hl' : EOk L := fun z hz => hl z (by simp [hz])
    have hm' : EOk M := fun z hz => hm z (by simp [hz])
    rw [unL_cons]
    split
    · exact (EOk.one hx).app (unL_ok hl' hm)
    · split
      · exact (EOk.one hy).app (unL_ok hl hm')
      · exact (EOk.one (addE_ok hx)).app (unL_ok hl' hm')
termination_by L M => L.length + M.length
theorem unL_len : ∀ (L M : List Ent), (unL L M).length ≤ L.length + M.length
  | [], M => by rw [unL_nil_left]; simp
  | x :: L, [] => by rw [unL_nil_right]; simp
  | x :: L, y :: M => by
    rw [unL_cons]
    split
    · have := unL_len L (y :: M); simp at this ⊢; omega
    · split
      · have := unL_len (x :: L) M; simp at this ⊢; omega
      · have := unL_len L M; simp at this ⊢; omega
termination_by L M => L.length + M.length
/-- d subtracted from all counts, and what is not above 0 left out. -/
def lowL (L : List Ent) (d : Int) : List Ent := (L.filter (fun x => decide (d < x.c))).map (fun x => ⟨x.k, x.c - d, 0⟩)
theorem lowL_nil (d : Int) : lowL [] d = [] := rfl
theorem lowL_succ {L : List Ent} {j : Nat} (h : j < L.length) (d : Int) : lowL (L.take (j + 1)) d = lowL (L.take j) d ++ (if d < (L.getD j Ent.z).c then [⟨(L.getD j Ent.z).k, (L.getD j Ent.z).c - d, 0⟩] else []) := by
  unfold lowL
  rw [take_succE h, List.filter_append, List.map_append]
  congr 1
  by_cases hd : d < (L.getD j Ent.z).c
  · rw [if_pos hd, List.filter_cons, if_pos (by simpa using hd)]; rfl
  · rw [if_neg hd, List.filter_cons, if_neg (by simpa using hd)]; rfl
theorem lowL_len (L : List Ent) (d : Int) : (lowL L d).length ≤ L.length := by
  unfold lowL
  rw [List.length_map]
  exact List.length_filter_le _ _
/-- An entry put in its place. -/
def insL (x : Ent) : List Ent → List Ent
  | [] => [x]
  | y :: L => if lessK x.k y.k = true then x :: y :: L else y :: insL x L
theorem insL_len (x : Ent) (L : List Ent) : (insL x L).length = L.length + 1 := by
  induction L with
  | nil => rfl
  | cons y L ih => unfold insL; split <;> simp [ih]
theorem insL_ok {x : Ent} {L : List Ent} (hx : x.ok) (h : EOk L) : EOk (insL x L) := by
  induction L with
  | nil => exact EOk.one hx
  | cons y L ih =>
    have hy : y.ok := h y (by simp)
    have hl' : EOk L := fun z hz => h z (by simp [hz])
    unfold insL
    split
    · exact (EOk.one hx).app h
    · exact (EOk.one hy).app (ih hl')
/-- The counts. -/
def cnts (L : List Ent) : List Int := L.map (fun x => x.c)
/-- What at most S of the counts exceed. -/
def srpl (L : List Ent) (S : Int) : Int := if (L.length : Int) ≤ S then 0 else (sortI (cnts L)).getD (L.length - 1 - S.toNat) 0
/-- The sum of two summaries. -/
def sumQ (a b : FQ) : FQ :=
  ⟨a.S, tS a.T b.T, tS (tS a.K b.K) (srpl (unL a.L b.L) a.S), lowL (unL a.L b.L) (srpl (unL a.L b.L) a.S),
    a.s || b.s || unF a.L b.L || tF a.T b.T || tF a.K b.K || tF (tS a.K b.K) (srpl (unL a.L b.L) a.S)⟩
def oneQ (S : Int) (k : ByteArray) (x : Int) : FQ := ⟨S, x, 0, [⟨k, x, 0⟩], false⟩
def insQE (t : FQ) (k : ByteArray) (x : Int) : Int := if valQ t.S t.T t.K t.L ≠ 0 then valQ t.S t.T t.K t.L else itemE (byt k) x
def insQ (t : FQ) (k : ByteArray) (x : Int) : FQ := if insQE t k x ≠ 0 then FQ.none else sumQ t (oneQ t.S k x)
def merQE (a b : FQ) : Int := if valQ a.S a.T a.K a.L ≠ 0 then valQ a.S a.T a.K a.L else if valQ b.S b.T b.K b.L ≠ 0 then valQ b.S b.T b.K b.L else if a.S ≠ b.S then 10 else 0
def merQ (a b : FQ) : FQ := if merQE a b ≠ 0 then FQ.none else sumQ a b
def newQE (S : Int) : Int := if S < 1 ∨ 32 < S then 5 else 0
def newQ (S : Int) : FQ := if S < 1 ∨ 32 < S then FQ.none else ⟨S, 0, 0, [], false⟩
end Go.Proofs.Ytmmdnomfpfcjiaa
