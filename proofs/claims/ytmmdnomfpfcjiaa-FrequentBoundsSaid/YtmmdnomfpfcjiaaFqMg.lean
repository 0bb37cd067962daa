/- What a summary of insertions knows of the true weights. No program. -/
import Derived.Test.YtmmdnomfpfcjiaaFqCom
namespace Go.Proofs.Ytmmdnomfpfcjiaa
open Go.RowKit
set_option linter.unusedVariables false
set_option linter.unusedSimpArgs false
def sumC : List Ent → Int
  | [] => 0
  | x :: L => x.c + sumC L
def cntK : List Ent → ByteArray → Int
  | [], _ => 0
  | x :: L, k => (if sameK x.k k = true then x.c else 0) + cntK L k
theorem sumC_nn {L : List Ent} (h : GdE L) : 0 ≤ sumC L := by
  induction L with
  | nil => exact Int.le_refl _
  | cons x L ih =>
    have h1 := (entQ_zero (h x (by simp))).2.1
    have h2 := ih (fun y hy => h y (by simp [hy]))
    show 0 ≤ x.c + sumC L
    omega
theorem cntK_nn {L : List Ent} (h : GdE L) (k : ByteArray) : 0 ≤ cntK L k ∧ cntK L k ≤ sumC L := by
  induction L with
  | nil => exact ⟨Int.le_refl _, Int.le_refl _⟩
  | cons x L ih =>
    have h1 := (entQ_zero (h x (by simp))).2.1
    have h2 := ih (fun y hy => h y (by simp [hy]))
    show 0 ≤ (if sameK x.k k = true then x.c else 0) + cntK L k ∧ (if sameK x.k k = true then x.c else 0) + cntK L k ≤ x.c + sumC L
    split <;> omega
theorem tS_sum {a b : Int} (h0 : 0 ≤ a) (h1 : 0 ≤ b) (h : a + b ≤ 1099511627776) : tS a b = a + b := by unfold tS satN nat0; split <;> omega
theorem tF_sum {a b : Int} (h0 : 0 ≤ a) (h1 : 0 ≤ b) (h : a + b ≤ 1099511627776) : tF a b = false := by unfold tF satF nat0; simp; omega
theorem unL_sums : ∀ {L M : List Ent}, GdE L → GdE M → sumC L + sumC M ≤ 1099511627776 → sumC (unL L M) = sumC L + sumC M ∧ unF L M = false ∧ ∀ k, cntK (unL L M) k = cntK L k + cntK M k
  | [], M, _, _, _ => by
    rw [unL_nil_left, unF_nil_left]
    exact ⟨by show _ = 0 + sumC M; omega, rfl, fun k => by show _ = 0 + cntK M k; omega⟩
  | x :: L, [], _, _, _ => by
    rw [unL_nil_right, unF_nil_right]
    exact ⟨by show _ = sumC (x :: L) + 0; omega, rfl, fun k => by show _ = cntK (x :: L) k + 0; omega⟩
  | x :: L, y :: M, hl, hm, hs => by
    have hx := (entQ_zero (hl x (by simp))).2.1
    have hy := (entQ_zero (hm y (by simp))).2.1
    have hl' : GdE L := fun z hz => hl z (by simp [hz])
    have hm' : GdE M := fun z hz => hm z (by simp [hz])
    have nl := sumC_nn hl'
    have nm := sumC_nn hm'
    have el : sumC (x :: L) = x.c + sumC L := rfl
    have em : sumC (y :: M) = y.c + sumC M := rfl
    have cl : ∀ k, cntK (x :: L) k = (if sameK x.k k = true then x.c else 0) + cntK L k := fun _ => rfl
    have cm : ∀ k, cntK (y :: M) k = (if sameK y.k k = true then y.c else 0) + cntK M k := fun _ => rfl
    rw [unL_cons, unF_cons]
    rcases lessK_tri x.k y.k with h1 | h1 | h1
    · simp only [h1, if_true]
      obtain ⟨i1, i2, i3⟩ := unL_sums hl' hm (by omega)
      refine ⟨?_, i2, fun k => ?_⟩
      · show x.c + sumC (unL L (y :: M)) = _
        omega
      · show (if sameK x.k k = true then x.c else 0) + cntK (unL L (y :: M)) k = _
        rw [i3, cl]; omega
    · have h2 := lessK_irr y.k
      rw [h1]
      simp only [h2, Bool.false_eq_true, if_false]
      obtain ⟨i1, i2, i3⟩ := unL_sums hl' hm' (by omega)
      have et : tS x.c y.c = x.c + y.c := tS_sum (by omega) (by omega) (by omega)
      refine ⟨?_, by rw [tF_sum (by omega) (by omega) (by omega), i2]; rfl, fun k => ?_⟩
      · show tS x.c y.c + sumC (unL L M) = _
        omega
      · show (if sameK x.k k = true then tS x.c y.c else 0) + cntK (unL L M) k = _
        rw [i3, cl, cm, h1, et]
        split <;> omega
    · have h2 := lessK_asym h1
      simp only [h1, h2, if_true, Bool.false_eq_true, if_false]
      obtain ⟨i1, i2, i3⟩ := unL_sums hl hm' (by omega)
      refine ⟨?_, i2, fun k => ?_⟩
      · show y.c + sumC (unL (x :: L) M) = _
        omega
      · show (if sameK y.k k = true then y.c else 0) + cntK (unL (x :: L) M) k = _
        rw [i3, cm]; omega
termination_by L M => L.length + M.length
theorem cntK_none {L : List Ent} {k : ByteArray} (h : ∀ y ∈ L, sameK y.k k = false) : cntK L k = 0 := by
  induction L with
  | nil => rfl
  | cons x L ih =>
    show (if sameK x.k k = true then x.c else 0) + cntK L k = 0
    rw [h x (by simp), ih (fun y hy => h y (by simp [hy]))]
    rfl
theorem low_cnt {L : List Ent} {d : Int} (hg : GdE L) (ha : AscK L) (d0 : 0 ≤ d) (k : ByteArray) : cntK (lowL L d) k ≤ cntK L k ∧ cntK L k ≤ cntK (lowL L d) k + d := by
  induction L with
  | nil => exact ⟨Int.le_refl _, by show (0 : Int) ≤ 0 + d; omega⟩
  | cons x L ih =>
    have hx := (entQ_zero (hg x (by simp))).2.1
    have hg' : GdE L := fun z hz => hg z (by simp [hz])
    obtain ⟨i1, i2⟩ := ih hg' ha.tail
    have hn := (cntK_nn (lowL_gd hg' d0) k).1
    have e1 : cntK (x :: L) k = (if sameK x.k k = true then x.c else 0) + cntK L k := rfl
    have e2 : cntK (lowL (x :: L) d) k = (if d < x.c then (if sameK x.k k = true then x.c - d else 0) else 0) + cntK (lowL L d) k := by
      rw [lowL_cons]
      by_cases h : d < x.c
      · rw [if_pos h, if_pos h]; rfl
      · rw [if_neg h, if_neg h]
        show cntK (lowL L d) k = 0 + cntK (lowL L d) k
        omega
    rw [e1, e2]
    by_cases hs : sameK x.k k = true
    · have hz : cntK L k = 0 := cntK_none (fun y hy => by
        have h1 := lessK_ne' (ha.head y hy)
        rw [← (sameK_iff x.k k).1 hs]
        exact h1)
      rw [if_pos hs, if_pos hs]
      split <;> omega
    · rw [if_neg hs, if_neg hs]
      split <;> omega
theorem low_sum {L : List Ent} {d : Int} (hg : GdE L) (d0 : 0 ≤ d) : sumC (lowL L d) + d * ((cnts L).countP (fun c => decide (d ≤ c)) : Nat) ≤ sumC L := by
  induction L with
  | nil => show (0 : Int) + d * ((0 : Nat) : Int) ≤ 0; simp
  | cons x L ih =>
    have hx := (entQ_zero (hg x (by simp))).2.1
    have i1 := ih (fun z hz => hg z (by simp [hz]))
    have e1 : sumC (x :: L) = x.c + sumC L := rfl
    have e2 : sumC (lowL (x :: L) d) = (if d < x.c then x.c - d else 0) + sumC (lowL L d) := by
      rw [lowL_cons]
      by_cases h : d < x.c
      · rw [if_pos h, if_pos h]; rfl
      · rw [if_neg h, if_neg h]
        show sumC (lowL L d) = 0 + sumC (lowL L d)
        omega
    have e3 : (cnts (x :: L)).countP (fun c => decide (d ≤ c)) = (cnts L).countP (fun c => decide (d ≤ c)) + (if d ≤ x.c then 1 else 0) := by
      show List.countP _ (x.c :: cnts L) = _
      rw [List.countP_cons]
      simp
    rw [e1, e2, e3]
    generalize (cnts L).countP (fun c => decide (d ≤ c)) = p at *
    by_cases h : d ≤ x.c
    · rw [if_pos h, Int.natCast_add, Int.mul_add]
      have : d * ((1 : Nat) : Int) = d := by simp
      rw [this]
      split <;> omega
    · rw [if_neg h, if_neg (by omega), Nat.add_zero]
      omega
/-- What a summary knows of a weight function f. -/
structure Mg (S : Int) (f : ByteArray → Int) (W : Int) (c : FQ) : Prop where
  hS : c.S = S
  val : ValQ c.S c.T c.K c.L
  sat : c.s = false
  tot : c.T = W
  lo : ∀ k, cntK c.L k ≤ f k
  hi : ∀ k, f k ≤ cntK c.L k + c.K
  sum : sumC c.L + (S + 1) * c.K ≤ W
theorem Mg.w {S W : Int} {f : ByteArray → Int} {c : FQ} (h : Mg S f W c) : 0 ≤ W ∧ W ≤ 1099511627776 := by
  have := h.val.t0; have := h.val.t1; have := h.tot; omega
theorem Mg.kle {S W : Int} {f : ByteArray → Int} {c : FQ} (h : Mg S f W c) : sumC c.L + c.K ≤ W := by
  have h0 := h.val.k0
  have h1 := h.val.s0
  have h2 := h.sum
  rw [h.hS] at h1
  have h3 : (S + 1) * c.K = S * c.K + c.K := by rw [Int.add_mul, Int.one_mul]
  have h4 : 0 ≤ S * c.K := Int.mul_nonneg (by omega) h0
  omega
theorem Mg.any {S W : Int} {f : ByteArray → Int} {c : FQ} (h : Mg S f W c) (k : ByteArray) : 0 ≤ f k ∧ f k ≤ W := by
  have h1 := h.lo k
  have h2 := h.hi k
  have h3 := cntK_nn h.val.gd k
  have h4 := h.kle
  omega
theorem Mg.new {S : Int} (h0 : 1 ≤ S) (h1 : S ≤ 32) : Mg S (fun _ => 0) 0 ⟨S, 0, 0, [], false⟩ :=
  ⟨rfl, (newQ_val h0 h1).2.2, rfl, rfl, fun _ => Int.le_refl _, fun _ => by show (0 : Int) ≤ 0 + 0; decide, by show (0 : Int) + (S + 1) * 0 ≤ 0; simp⟩
def addW (f : ByteArray → Int) (k : ByteArray) (x : Int) (k' : ByteArray) : Int := f k' + (if sameK k k' = true then x else 0)
theorem Mg.sum2 {S V W : Int} {f g : ByteArray → Int} {a b : FQ} (ha : Mg S f V a) (hb : Mg S g W b) (hw : V + W ≤ 1099511627776) : Mg S (fun k => f k + g k) (V + W) (sumQ a b) := by
  have hSS : a.S = b.S := ha.hS.trans hb.hS.symm
  have ka := ha.val.k0
  have kb := hb.val.k0
  have sa := ha.kle
  have sb := hb.kle
  have na := sumC_nn ha.val.gd
  have nb := sumC_nn hb.val.gd
  obtain ⟨u1, u2, u3⟩ := unL_sums ha.val.gd hb.val.gd (by omega)
  have hg := unL_gd ha.val.gd hb.val.gd
  have hac := unL_asc ha.val.asc hb.val.asc
  have hS0 : 0 ≤ a.S := by have := ha.val.s0; omega
  have hd0 := srpl_zero_le (S := a.S) hg
  have hk : tS a.K b.K = a.K + b.K := tS_sum ka kb (by omega)
  have hlow : sumC (lowL (unL a.L b.L) (srpl (unL a.L b.L) a.S)) + (S + 1) * srpl (unL a.L b.L) a.S ≤ sumC (unL a.L b.L) := by
    by_cases hl : ((unL a.L b.L).length : Int) ≤ a.S
    · rw [srpl_zero hl, lowL_zero (fun x hx => ⟨(entQ_zero (hg x hx)).2.1, (entQ_zero (hg x hx)).2.2.2⟩)]
      simp
    · have h1 := srpl_many (unL a.L b.L) hS0 (by omega)
      have h2 := low_sum (d := srpl (unL a.L b.L) a.S) hg hd0
      rw [ha.hS] at h1 h2 hd0 ⊢
      have h3 : (S + 1) * srpl (unL a.L b.L) S ≤ srpl (unL a.L b.L) S * ((cnts (unL a.L b.L)).countP (fun c => decide (srpl (unL a.L b.L) S ≤ c)) : Nat) := by
        rw [Int.mul_comm]
        exact Int.mul_le_mul_of_nonneg_left h1 hd0
      omega
  have hnl := sumC_nn (lowL_gd (d := srpl (unL a.L b.L) a.S) hg hd0)
  have sum1 := ha.sum
  have sum2 := hb.sum
  have hmul : (S + 1) * (a.K + b.K + srpl (unL a.L b.L) a.S) = (S + 1) * a.K + (S + 1) * b.K + (S + 1) * srpl (unL a.L b.L) a.S := by rw [Int.mul_add, Int.mul_add]
  have hS1 : 1 ≤ S := by have := ha.val.s0; have := ha.hS; omega
  have hbd : a.K + b.K + srpl (unL a.L b.L) a.S ≤ V + W := by
    have h5 : (S + 1) * (a.K + b.K + srpl (unL a.L b.L) a.S) = S * (a.K + b.K + srpl (unL a.L b.L) a.S) + (a.K + b.K + srpl (unL a.L b.L) a.S) := by rw [Int.add_mul, Int.one_mul]
    have h6 : 0 ≤ S * (a.K + b.K + srpl (unL a.L b.L) a.S) := Int.mul_nonneg (by omega) (by omega)
    omega
  have hkd : tS (tS a.K b.K) (srpl (unL a.L b.L) a.S) = a.K + b.K + srpl (unL a.L b.L) a.S := by rw [hk]; exact tS_sum (by omega) hd0 (by omega)
  refine ⟨ha.hS, ha.val.sum' hb.val hSS, ?_, ?_, fun k => ?_, fun k => ?_, ?_⟩
  · show (a.s || b.s || unF a.L b.L || tF a.T b.T || tF a.K b.K || tF (tS a.K b.K) (srpl (unL a.L b.L) a.S)) = false
    have t1 := ha.tot
    have t2 := hb.tot
    have w1 := ha.w
    have w2 := hb.w
    rw [ha.sat, hb.sat, u2, tF_sum (a := a.T) (b := b.T) (by omega) (by omega) (by omega), tF_sum ka kb (by omega), hk, tF_sum (by omega) hd0 (by omega)]
    rfl
  · show tS a.T b.T = V + W
    have t1 := ha.tot
    have t2 := hb.tot
    have w1 := ha.w
    have w2 := hb.w
    rw [tS_sum (by omega) (by omega) (by omega)]
    omega
  · have h1 := ha.lo k
    have h2 := hb.lo k
    have h3 := (low_cnt (d := srpl (unL a.L b.L) a.S) hg hac hd0 k).1
    have h4 := u3 k
    show cntK (lowL (unL a.L b.L) (srpl (unL a.L b.L) a.S)) k ≤ f k + g k
    omega
  · have h1 := ha.hi k
    have h2 := hb.hi k
    have h3 := (low_cnt (d := srpl (unL a.L b.L) a.S) hg hac hd0 k).2
    have h4 := u3 k
    show f k + g k ≤ cntK (lowL (unL a.L b.L) (srpl (unL a.L b.L) a.S)) k + tS (tS a.K b.K) (srpl (unL a.L b.L) a.S)
    rw [hkd]
    omega
  · show sumC (lowL (unL a.L b.L) (srpl (unL a.L b.L) a.S)) + (S + 1) * tS (tS a.K b.K) (srpl (unL a.L b.L) a.S) ≤ V + W
    rw [hkd, hmul]
    omega
theorem Mg.ins {S W : Int} {f : ByteArray → Int} {c : FQ} (h : Mg S f W c) {k : ByteArray} {x : Int} (hi : itemE (byt k) x = 0) (hw : W + x ≤ 1099511627776) : Mg S (addW f k x) (W + x) (insQ c k x) ∧ insQE c k x = 0 := by
  obtain ⟨e1, e2, -, -⟩ := insQ_val h.val hi
  refine ⟨?_, e1⟩
  rw [e2]
  have hv := ValQ.one (k := k) (x := x) h.val.s0 h.val.s1 hi
  have hx := (hv.ok1 ⟨k, x, 0⟩ (by simp)).1
  have h1 : Mg S (fun k' => if sameK k k' = true then x else 0) x (oneQ c.S k x) := by
    refine ⟨h.hS, hv, rfl, rfl, fun k' => ?_, fun k' => ?_, ?_⟩
    · show (if sameK k k' = true then x else 0) + 0 ≤ _
      omega
    · show _ ≤ (if sameK k k' = true then x else 0) + 0 + 0
      omega
    · show x + 0 + (S + 1) * 0 ≤ x
      rw [Int.mul_zero]
      omega
  exact h.sum2 h1 hw
theorem cntK_at {L : List Ent} (h : AscK L) {j : Nat} (hj : j < L.length) {k : ByteArray} (hs : sameK (L.getD j Ent.z).k k = true) : cntK L k = (L.getD j Ent.z).c := by
  induction L generalizing j with
  | nil => simp at hj
  | cons x L ih =>
    show (if sameK x.k k = true then x.c else 0) + cntK L k = _
    cases j with
    | zero =>
      have hs' : sameK x.k k = true := hs
      rw [if_pos hs', cntK_none (fun y hy => by
        rw [← (sameK_iff x.k k).1 hs']
        exact lessK_ne' (h.head y hy))]
      show x.c + 0 = x.c
      omega
    | succ j =>
      have hj' : j < L.length := by simpa using hj
      have e : (x :: L).getD (j + 1) Ent.z = L.getD j Ent.z := by simp [List.getD]
      rw [e] at hs ⊢
      have hm : L.getD j Ent.z ∈ L := by
        rw [show L.getD j Ent.z = L[j] by simp [List.getD, hj']]
        exact List.getElem_mem hj'
      have hn : sameK x.k k = false := by
        rw [← (sameK_iff _ _).1 hs]
        exact lessK_ne (h.head _ hm)
      rw [if_neg (by rw [hn]; simp), ih h.tail hj' hs]
      omega
end Go.Proofs.Ytmmdnomfpfcjiaa
