/- FqMg, MkT, PQV: in one text. -/
import Derived.Test.YtjibbnknliamkaaGreatDoorPg07
import Derived.Test.YtjibbnknliamkaaGreatDoorPg32
import Derived.Test.YtjibbnknliamkaaGreatDoorPg31
import Derived.Test.YtjibbnknliamkaaGreatDoorPg24
import Derived.Test.YtjibbnknliamkaaGreatDoorPg00
import Derived.Test.YtjibbnknliamkaaGreatDoorPg01
import Derived.BigRegion
namespace Go.Proofs.YtjibbnknliamkaaGreatDoor
open Go.RowKit
set_option linter.unusedVariables false
set_option linter.unusedSimpArgs false
def cntK_2 : List Ent → ByteArray → Int
  | [], _ => 0
  | x :: L, k => (if sameK x.k k = true then x.c else 0) + cntK_2 L k
theorem sumC_nn {L : List Ent} (h : GdE L) : 0 ≤ sumC L := by
  induction L with
  | nil => exact Int.le_refl _
  | cons x L ih =>
    have h1 := (entQ_zero (h x (by simp))).2.1
    have h2 := ih (fun y hy => h y (by simp [hy]))
    show 0 ≤ x.c + sumC L
    omega
theorem cntK_nn {L : List Ent} (h : GdE L) (k : ByteArray) : 0 ≤ cntK_2 L k ∧ cntK_2 L k ≤ sumC L := by
  induction L with
  | nil => exact ⟨Int.le_refl _, Int.le_refl _⟩
  | cons x L ih =>
    have h1 := (entQ_zero (h x (by simp))).2.1
    have h2 := ih (fun y hy => h y (by simp [hy]))
    show 0 ≤ (if sameK x.k k = true then x.c else 0) + cntK_2 L k ∧ (if sameK x.k k = true then x.c else 0) + cntK_2 L k ≤ x.c + sumC L
    split <;> omega
theorem unL_sums : ∀ {L M : List Ent}, GdE L → GdE M → sumC L + sumC M ≤ 1099511627776 → sumC (unL L M) = sumC L + sumC M ∧ unF L M = false ∧ ∀ k, cntK_2 (unL L M) k = cntK_2 L k + cntK_2 M k
  | [], M, _, _, _ => by
    rw [unL_nil_left, unF_nil_left]
    exact ⟨by show _ = 0 + sumC M; omega, rfl, fun k => by show _ = 0 + cntK_2 M k; omega⟩
  | x :: L, [], _, _, _ => by
    rw [unL_nil_right, unF_nil_right]
    exact ⟨by show _ = sumC (x :: L) + 0; omega, rfl, fun k => by show _ = cntK_2 (x :: L) k + 0; omega⟩
  | x :: L, y :: M, hl, hm, hs => by
    have hx := (entQ_zero (hl x (by simp))).2.1
    have hy := (entQ_zero (hm y (by simp))).2.1
    have hl' : GdE L := fun z hz => hl z (by simp [hz])
    have hm' : GdE M := fun z hz => hm z (by simp [hz])
    have nl := sumC_nn hl'
    have nm := sumC_nn hm'
    have el : sumC (x :: L) = x.c + sumC L := rfl
    have em : sumC (y :: M) = y.c + sumC M := rfl
    have cl : ∀ k, cntK_2 (x :: L) k = (if sameK x.k k = true then x.c else 0) + cntK_2 L k := fun _ => rfl
    have cm : ∀ k, cntK_2 (y :: M) k = (if sameK y.k k = true then y.c else 0) + cntK_2 M k := fun _ => rfl
    rw [unL_cons, unF_cons]
    rcases lessK_tri x.k y.k with h1 | h1 | h1
    · simp only [h1, if_true]
      obtain ⟨i1, i2, i3⟩ := unL_sums hl' hm (by omega)
      refine ⟨?_, i2, fun k => ?_⟩
      · show x.c + sumC (unL L (y :: M)) = _
        omega
      · show (if sameK x.k k = true then x.c else 0) + cntK_2 (unL L (y :: M)) k = _
        rw [i3, cl]; omega
    · have h2 := lessK_irr y.k
      rw [h1]
      simp only [h2, Bool.false_eq_true, if_false]
      obtain ⟨i1, i2, i3⟩ := unL_sums hl' hm' (by omega)
      have et : tS x.c y.c = x.c + y.c := tS_sum (by omega) (by omega) (by omega)
      refine ⟨?_, by rw [tF_sum (by omega) (by omega) (by omega), i2]; rfl, fun k => ?_⟩
      · show tS x.c y.c + sumC (unL L M) = _
        omega
      · show (if sameK x.k k = true then tS x.c y.c else 0) + cntK_2 (unL L M) k = _
        rw [i3, cl, cm, h1, et]
        split <;> omega
    · have h2 := lessK_asym h1
      simp only [h1, h2, if_true, Bool.false_eq_true, if_false]
      obtain ⟨i1, i2, i3⟩ := unL_sums hl hm' (by omega)
      refine ⟨?_, i2, fun k => ?_⟩
      · show y.c + sumC (unL (x :: L) M) = _
        omega
      · show (if sameK y.k k = true then y.c else 0) + cntK_2 (unL (x :: L) M) k = _
        rw [i3, cm]; omega
termination_by L M => L.length + M.length
theorem cntK_none {L : List Ent} {k : ByteArray} (h : ∀ y ∈ L, sameK y.k k = false) : cntK_2 L k = 0 := by
  induction L with
  | nil => rfl
  | cons x L ih =>
    show (if sameK x.k k = true then x.c else 0) + cntK_2 L k = 0
    rw [h x (by simp), ih (fun y hy => h y (by simp [hy]))]
    rfl
theorem low_cnt {L : List Ent} {d : Int} (hg : GdE L) (ha : AscK L) (d0 : 0 ≤ d) (k : ByteArray) : cntK_2 (lowL_2 L d) k ≤ cntK_2 L k ∧ cntK_2 L k ≤ cntK_2 (lowL_2 L d) k + d := by
  induction L with
  | nil => exact ⟨Int.le_refl _, by show (0 : Int) ≤ 0 + d; omega⟩
  | cons x L ih =>
    have hx := (entQ_zero (hg x (by simp))).2.1
    have hg' : GdE L := fun z hz => hg z (by simp [hz])
    obtain ⟨i1, i2⟩ := ih hg' ha.tail
    have hn := (cntK_nn (lowL_gd hg' d0) k).1
    have e1 : cntK_2 (x :: L) k = (if sameK x.k k = true then x.c else 0) + cntK_2 L k := rfl
    have e2 : cntK_2 (lowL_2 (x :: L) d) k = (if d < x.c then (if sameK x.k k = true then x.c - d else 0) else 0) + cntK_2 (lowL_2 L d) k := by
      rw [lowL_cons]
      by_cases h : d < x.c
      · rw [if_pos h, if_pos h]; rfl
      · rw [if_neg h, if_neg h]
        show cntK_2 (lowL_2 L d) k = 0 + cntK_2 (lowL_2 L d) k
        omega
    rw [e1, e2]
    by_cases hs : sameK x.k k = true
    · have hz : cntK_2 L k = 0 := cntK_none (fun y hy => by
        have h1 := lessK_ne' (ha.head y hy)
        rw [← (sameK_iff x.k k).1 hs]
        exact h1)
      rw [if_pos hs, if_pos hs]
      split <;> omega
    · rw [if_neg hs, if_neg hs]
      split <;> omega
theorem low_sum {L : List Ent} {d : Int} (hg : GdE L) (d0 : 0 ≤ d) : sumC (lowL_2 L d) + d * ((cnts L).countP (fun c => decide (d ≤ c)) : Nat) ≤ sumC L := by
  induction L with
  | nil => show (0 : Int) + d * ((0 : Nat) : Int) ≤ 0; simp
  | cons x L ih =>
    have hx := (entQ_zero (hg x (by simp))).2.1
    have i1 := ih (fun z hz => hg z (by simp [hz]))
    have e1 : sumC (x :: L) = x.c + sumC L := rfl
    have e2 : sumC (lowL_2 (x :: L) d) = (if d < x.c then x.c - d else 0) + sumC (lowL_2 L d) := by
      rw [lowL_cons]
      by_cases h : d < x.c
      · rw [if_pos h, if_pos h]; rfl
      · rw [if_neg h, if_neg h]
        show sumC (lowL_2 L d) = 0 + sumC (lowL_2 L d)
        omega
    have e3 : (cnts (x :: L)).countP (fun c => decide (d ≤ c)) = (cnts L).countP (fun c => decide (d ≤ c)) + (if d ≤ x.c then 1 else 0) := by
      show List.countP _ (x.c :: cnts L) = _
      rw [List.countP_cons]
      simp
    rw [e1, e2, e3]
    generalize (cnts L).countP (fun c => decide (d ≤ c)) = p at *
    by_cases h : d ≤ x.c
    · rw [if_pos h, Int.natCast_add, Int.mul_add]
      have : d * ((1 : Nat) : Int) = d := by simp
      rw [this]
      split <;> omega
    · rw [if_neg h, if_neg (by omega), Nat.add_zero]
      omega
/-- What a summary knows of a weight function f. -/
structure Mg (S : Int) (f : ByteArray → Int) (W : Int) (c : FQ) : Prop where
  hS : c.S = S
  val : ValQ c.S c.T c.K c.L
  sat : c.s = false
  tot : c.T = W
  lo : ∀ k, cntK_2 c.L k ≤ f k
  hi : ∀ k, f k ≤ cntK_2 c.L k + c.K
  sum : sumC c.L + (S + 1) * c.K ≤ W
theorem Mg.w {S W : Int} {f : ByteArray → Int} {c : FQ} (h : Mg S f W c) : 0 ≤ W ∧ W ≤ 1099511627776 := by
  have := h.val.t0; have := h.val.t1; have := h.tot; omega
theorem Mg.kle {S W : Int} {f : ByteArray → Int} {c : FQ} (h : Mg S f W c) : sumC c.L + c.K ≤ W := by
  have h0 := h.val.k0
  have h1 := h.val.s0
  have h2 := h.sum
  rw [h.hS] at h1
  have h3 : (S + 1) * c.K = S * c.K + c.K := by rw [Int.add_mul, Int.one_mul]
  have h4 : 0 ≤ S * c.K := Int.mul_nonneg (by omega) h0
  omega
theorem Mg.any {S W : Int} {f : ByteArray → Int} {c : FQ} (h : Mg S f W c) (k : ByteArray) : 0 ≤ f k ∧ f k ≤ W := by
  have h1 := h.lo k
  have h2 := h.hi k
  have h3 := cntK_nn h.val.gd k
  have h4 := h.kle
  omega
theorem Mg.new {S : Int} (h0 : 1 ≤ S) (h1 : S ≤ 32) : Mg S (fun _ => 0) 0 ⟨S, 0, 0, [], false⟩ :=
  ⟨rfl, (newQ_val h0 h1).2.2, rfl, rfl, fun _ => Int.le_refl _, fun _ => by show (0 : Int) ≤ 0 + 0; decide, by show (0 : Int) + (S + 1) * 0 ≤ 0; simp⟩
theorem Mg.sum2 {S V W : Int} {f g : ByteArray → Int} {a b : FQ} (ha : Mg S f V a) (hb : Mg S g W b) (hw : V + W ≤ 1099511627776) : Mg S (fun k => f k + g k) (V + W) (sumQ a b) := by
  have hSS : a.S = b.S := ha.hS.trans hb.hS.symm
  have ka := ha.val.k0
  have kb := hb.val.k0
  have sa := ha.kle
  have sb := hb.kle
  have na := sumC_nn ha.val.gd
  have nb := sumC_nn hb.val.gd
  obtain ⟨u1, u2, u3⟩ := unL_sums ha.val.gd hb.val.gd (by omega)
  have hg := unL_gd ha.val.gd hb.val.gd
  have hac := unL_asc ha.val.asc hb.val.asc
  have hS0 : 0 ≤ a.S := by have := ha.val.s0; omega
  have hd0 := srpl_zero_le (S := a.S) hg
  have hk : tS a.K b.K = a.K + b.K := tS_sum ka kb (by omega)
  have hlow : sumC (lowL_2 (unL a.L b.L) (srpl (unL a.L b.L) a.S)) + (S + 1) * srpl (unL a.L b.L) a.S ≤ sumC (unL a.L b.L) := by
    by_cases hl : ((unL a.L b.L).length : Int) ≤ a.S
    · rw [srpl_zero hl, lowL_zero (fun x hx => ⟨(entQ_zero (hg x hx)).2.1, (entQ_zero (hg x hx)).2.2.2⟩)]
      simp
    · have h1 := srpl_many (unL a.L b.L) hS0 (by omega)
      have h2 := low_sum (d := srpl (unL a.L b.L) a.S) hg hd0
      rw [ha.hS] at h1 h2 hd0 ⊢
      have h3 : (S + 1) * srpl (unL a.L b.L) S ≤ srpl (unL a.L b.L) S * ((cnts (unL a.L b.L)).countP (fun c => decide (srpl (unL a.L b.L) S ≤ c)) : Nat) := by
        rw [Int.mul_comm]
        exact Int.mul_le_mul_of_nonneg_left h1 hd0
      omega
  have hnl := sumC_nn (lowL_gd (d := srpl (unL a.L b.L) a.S) hg hd0)
  have sum1 := ha.sum
  have sum2 := hb.sum
  have hmul : (S + 1) * (a.K + b.K + srpl (unL a.L b.L) a.S) = (S + 1) * a.K + (S + 1) * b.K + (S + 1) * srpl (unL a.L b.L) a.S := by rw [Int.mul_add, Int.mul_add]
  have hS1 : 1 ≤ S := by have := ha.val.s0; have := ha.hS; omega
  have hbd : a.K + b.K + srpl (unL a.L b.L) a.S ≤ V + W := by
    have h5 : (S + 1) * (a.K + b.K + srpl (unL a.L b.L) a.S) = S * (a.K + b.K + srpl (unL a.L b.L) a.S) + (a.K + b.K + srpl (unL a.L b.L) a.S) := by rw [Int.add_mul, Int.one_mul]
    have h6 : 0 ≤ S * (a.K + b.K + srpl (unL a.L b.L) a.S) := Int.mul_nonneg (by omega) (by omega)
    omega
  have hkd : tS (tS a.K b.K) (srpl (unL a.L b.L) a.S) = a.K + b.K + srpl (unL a.L b.L) a.S := by rw [hk]; exact tS_sum (by omega) hd0 (by omega)
  refine ⟨ha.hS, ha.val.sum' hb.val hSS, ?_, ?_, fun k => ?_, fun k => ?_, ?_⟩
  · show (a.s || b.s || unF a.L b.L || tF_2 a.T b.T || tF_2 a.K b.K || tF_2 (tS a.K b.K) (srpl (unL a.L b.L) a.S)) = false
    have t1 := ha.tot
    have t2 := hb.tot
    have w1 := ha.w
    have w2 := hb.w
    rw [ha.sat, hb.sat, u2, tF_sum (a := a.T) (b := b.T) (by omega) (by omega) (by omega), tF_sum ka kb (by omega), hk, tF_sum (by omega) hd0 (by omega)]
    rfl
  · show tS a.T b.T = V + W
    have t1 := ha.tot
    have t2 := hb.tot
    have w1 := ha.w
    have w2 := hb.w
    rw [tS_sum (by omega) (by omega) (by omega)]
    omega
  · have h1 := ha.lo k
    have h2 := hb.lo k
    have h3 := (low_cnt (d := srpl (unL a.L b.L) a.S) hg hac hd0 k).1
    have h4 := u3 k
    show cntK_2 (lowL_2 (unL a.L b.L) (srpl (unL a.L b.L) a.S)) k ≤ f k + g k
    omega
  · have h1 := ha.hi k
    have h2 := hb.hi k
    have h3 := (low_cnt (d := srpl (unL a.L b.L) a.S) hg hac hd0 k).2
    have h4 := u3 k
    show f k + g k ≤ cntK_2 (lowL_2 (unL a.L b.L) (srpl (unL a.L b.L) a.S)) k + tS (tS a.K b.K) (srpl (unL a.L b.L) a.S)
    rw [hkd]
    omega
  · show sumC (lowL_2 (unL a.L b.L) (srpl (unL a.L b.L) a.S)) + (S + 1) * tS (tS a.K b.K) (srpl (unL a.L b.L) a.S) ≤ V + W
    rw [hkd, hmul]
    omega
theorem Mg.ins {S W : Int} {f : ByteArray → Int} {c : FQ} (h : Mg S f W c) {k : ByteArray} {x : Int} (hi : itemE (byt k) x = 0) (hw : W + x ≤ 1099511627776) : Mg S (addW f k x) (W + x) (insQ c k x) ∧ insQE c k x = 0 := by
  obtain ⟨e1, e2, -, -⟩ := insQ_val h.val hi
  refine ⟨?_, e1⟩
  rw [e2]
  have hv := ValQ.one (k := k) (x := x) h.val.s0 h.val.s1 hi
  have hx := (hv.ok1 ⟨k, x, 0⟩ (by simp)).1
  have h1 : Mg S (fun k' => if sameK k k' = true then x else 0) x (oneQ c.S k x) := by
    refine ⟨h.hS, hv, rfl, rfl, fun k' => ?_, fun k' => ?_, ?_⟩
    · show (if sameK k k' = true then x else 0) + 0 ≤ _
      omega
    · show _ ≤ (if sameK k k' = true then x else 0) + 0 + 0
      omega
    · show x + 0 + (S + 1) * 0 ≤ x
      rw [Int.mul_zero]
      omega
  exact h.sum2 h1 hw
end Go.Proofs.YtjibbnknliamkaaGreatDoor
namespace Go.Proofs.YtjibbnknliamkaaGreatDoor
open Go Go.RowKit
set_option linter.unusedVariables false
set_option linter.unusedSimpArgs false
theorem item_ok (z : Int) : itemE (byt (keyS z)) (wtS z) = 0 := by
  have h1 := wtS_bd z
  have h2 := key_isB z
  unfold itemE
  rw [h2]
  simp
  omega
theorem prm_top {S : Int} (h0 : 1 ≤ S) (h1 : S ≤ 32) : prmE 4 S 0 0 = 0 := by
  have : ¬ (S < 1 ∨ 32 < S) := by omega
  simp [prmE, newTE, this]
theorem prm_frq {S : Int} (h0 : 1 ≤ S) (h1 : S ≤ 32) : prmE 5 S 0 0 = 0 := by
  have : ¬ (S < 1 ∨ 32 < S) := by omega
  simp [prmE, newTE, this]
theorem u64_z : U64 0 := by unfold U64; decide
theorem i64_4 : I64 4 := by unfold I64; decide
theorem i64_5 : I64 5 := by unfold I64; decide
theorem lokNil : LOk [] := ⟨by decide, fun l hl => by cases hl⟩
theorem wf_fmO {t : TP} (h : (-9223372036854775808 ≤ t.S ∧ t.S ≤ 9223372036854775807) ∧ (-9223372036854775808 ≤ t.T ∧ t.T ≤ 9223372036854775807)) (hl : t.L.length ≤ 549755813888) : WfK (fmO t) :=
  ⟨i64_4, h.1, i64_z, u64_z, i64_z, i64_z, i64_z, i64_z, u64_z, i64_z, u64_z, h.1, h.2, hl, Nat.zero_le _, lokNil⟩
theorem wf_fmQ {f : FQ} (h : I64 f.S) (hl : f.L.length ≤ 549755813888) : WfK (fmQ f) :=
  ⟨i64_5, h, i64_z, u64_z, i64_z, i64_z, i64_z, i64_z, u64_z, i64_z, u64_z, i64_z, i64_z, Nat.zero_le _, hl, lokNil⟩
/-- Summaries of kind 4 after so many insertions. -/
def G4 (S : Int) (j : Nat) (s : SK) (at_ : Int) : Prop := at_ = 0 ∧ ∃ (t : TP) (h : ByteArray → Int) (W : Int), s = fmO t ∧ Spc S h W t ∧ W ≤ j * 4294967295
set_option maxRecDepth 100000 in
set_option maxHeartbeats 2000000 in
theorem new_top (S : Int) (w' : World) (h0 : 1 ≤ S) (h1 : S ≤ 32) : Calls Tryz.prog 24 #[.agg #[.int .i64 4, .int .i64 S, .int .i64 0, .int .u64 0]] w' fun e w2 => ∃ v E s, e = .returned (.tuple #[v, .int .i64 E]) ∧ (∀ w3, Abv w'.heap.size w2 w3 → RdK s v w3) ∧ G4 S 0 s 0 ∧ Below w'.heap.size w' w2 := by
  have hp := prm_top h0 h1
  refine (rn_any 4 S 0 0 w' (by unfold I64; omega) i64_z).mono (fun e w2 hh => ?_)
  obtain ⟨v, he, ho, hb⟩ := hh
  have hn : nuK 4 S 0 0 = fmO (newT S) := by
    rw [nu_em hp]
    have e : (newT S).S = S := (Spc.new h0 h1).hS
    unfold emK fmO
    rw [e]
    simp
  rw [hn] at ho
  exact ⟨v, _, _, he, fun w3 h3 => ho.abv h3, ⟨rfl, newT S, _, 0, rfl, Spc.new h0 h1, by simp⟩, hb⟩
set_option maxRecDepth 100000 in
set_option maxHeartbeats 2000000 in
theorem ins_top (S : Int) (j : Nat) (s : SK) (v vc : Value) (at_ : Int) (Z : List Int) (z : Int) (w' : World) (hj : j < 7) (hg : G4 S j s at_) (hr : RdK s v w') (hc : Rd Z vc w') :
    Calls Tryz.prog 25 #[v, .agg #[.string (keyS z), .int .i64 (wtS z)], vc, .int .i64 at_] w' fun e w2 => ∃ u s' at' E, e = .returned (.tuple #[u, .int .i64 at', .int .i64 E]) ∧ (∀ w3, Abv w'.heap.size w2 w3 → RdK s' u w3) ∧ G4 S (j + 1) s' at' ∧ Below w'.heap.size w' w2 := by
  obtain ⟨rfl, t, h, W, rfl, hs, hW⟩ := hg
  obtain ⟨a1, c1, a2, c2, a3, c3, a4, c4, a5, c5, rfl, hrr⟩ := hr.run
  obtain ⟨_, ca, cc, rfl, _⟩ := hc
  have hi := item_ok z
  have hwt := wtS_bd z
  have hW8 : W + wtS z ≤ 1099511627776 := by
    have : (j : Int) * 4294967295 ≤ 7 * 4294967295 := Int.mul_le_mul_of_nonneg_right (by omega) (by decide)
    omega
  obtain ⟨hs2, he2⟩ := hs.ins hi hW8
  have e : (Value.agg (skA (fmO t) (.slice a1 (fmO t).c.L.length c1) (.slice a2 (fmO t).l.L.length c2) (.slice a3 (fmO t).t.L.length c3) (.slice a4 (fmO t).f.L.length c4) (.slice a5 (fmO t).r.L.length c5))) = .agg #[.int .i64 4, .int .i64 t.S, .int .i64 0, .int .u64 0, .int .i64 0, .int .i64 0, .bool false, .int .i64 0, .int .i64 0, .int .u64 0, .slice a1 0 c1, .bool false, .int .i64 0, .int .u64 0, .slice a2 0 c2, .int .i64 t.S, .int .i64 t.T, .slice a3 t.L.length c3, .bool t.s, .int .i64 0, .int .i64 0, .int .i64 0, .slice a4 0 c4, .bool false, .int .i64 0, .int .i64 0, .int .i64 0, .slice a5 0 c5, .bool false] := by kernel_rfl
  rw [e]
  refine (fin_4 t (insTop t (keyS z) (wtS z)) a1 c1 a2 c2 a3 c3 a4 c4 a5 c5 ca _ cc (keyS z) (wtS z) 0 w' (wf_fmO hs.bd (by have := hs.len; have := hs.s1; omega)) hrr (prm_top (by have := hs.s0; have := hs.hS; omega) (by have := hs.s1; have := hs.hS; omega)) hs.valid (key_len z) (by omega) (by omega) hi (by decide) (by decide) rfl he2 (hs2.hS.trans hs.hS.symm)).mono (fun e2 w2 hh => ?_)
  obtain ⟨u, hu, hst, hb⟩ := hh
  exact ⟨u, _, 0, 0, hu, hst, ⟨rfl, _, _, _, rfl, hs2, by push_cast; omega⟩, hb⟩
/-- SketchOf, kind 4. -/
theorem skof_top (S : Int) (L : List Int) (v : Value) (w : World) (h0 : 1 ≤ S) (h1 : S ≤ 32) (hv : RdI L v w) :
    Calls Tryz.prog 21 #[.agg #[.int .i64 4, .int .i64 S, .int .i64 0, .int .u64 0], v] w fun e w' => ∃ u s, e = .returned u ∧ (∀ w3, Abv (w.heap.size + 2) w' w3 → RdK s u w3) ∧ (∃ (t : TP) (h : ByteArray → Int) (W : Int), s = fmO t ∧ Spc S h W t) ∧ Below w.heap.size w w' := by
  refine skof_any 4 S 0 0 L v w hv (fun s => ∃ (t : TP) (h : ByteArray → Int) (W : Int), s = fmO t ∧ Spc S h W t) (fun vi vc Z w' hi hc => ?_)
  have hl := soL_len L
  have hl7 := soN_le L
  refine (fill_any (G4 S) (soL L) Z 4 S 0 0 vi vc w' (by omega) hi hc (fun w2 => new_top S w2 h0 h1) (fun j s v2 at_ w2 hj hg hr hc2 => ?_)).mono (fun e w2 hh => ?_)
  · obtain ⟨z, hz⟩ := soL_at L hj
    rw [hz]
    exact ins_top S j s v2 vc at_ Z z w2 (by omega) hg hr hc2
  · obtain ⟨u, s, at_, hu, hst, ⟨_, x, h, W, hx, hs, _⟩, hb⟩ := hh
    exact ⟨u, s, hu, hst, ⟨x, h, W, hx, hs⟩, hb⟩
/-- Summaries of kind 5 after so many insertions. -/
def G5 (S : Int) (j : Nat) (s : SK) (at_ : Int) : Prop := at_ = 0 ∧ ∃ (f : FQ) (h : ByteArray → Int) (W : Int), s = fmQ f ∧ Mg S h W f ∧ W ≤ j * 4294967295
set_option maxRecDepth 100000 in
set_option maxHeartbeats 2000000 in
theorem new_frq (S : Int) (w' : World) (h0 : 1 ≤ S) (h1 : S ≤ 32) : Calls Tryz.prog 24 #[.agg #[.int .i64 5, .int .i64 S, .int .i64 0, .int .u64 0]] w' fun e w2 => ∃ v E s, e = .returned (.tuple #[v, .int .i64 E]) ∧ (∀ w3, Abv w'.heap.size w2 w3 → RdK s v w3) ∧ G5 S 0 s 0 ∧ Below w'.heap.size w' w2 := by
  have hp := prm_frq h0 h1
  refine (rn_any 5 S 0 0 w' (by unfold I64; omega) i64_z).mono (fun e w2 hh => ?_)
  obtain ⟨v, he, ho, hb⟩ := hh
  have hn : nuK 5 S 0 0 = fmQ (newQ S) := by
    rw [nu_em hp]
    have e : (newQ S).S = S := by unfold newQ; rw [if_neg (by omega)]
    unfold emK fmQ
    rw [e]
    simp
  rw [hn] at ho
  exact ⟨v, _, _, he, fun w3 h3 => ho.abv h3, ⟨rfl, newQ S, _, 0, rfl, by unfold newQ; rw [if_neg (by omega)]; exact Mg.new h0 h1, by simp⟩, hb⟩
set_option maxRecDepth 100000 in
set_option maxHeartbeats 2000000 in
theorem ins_frq (S : Int) (j : Nat) (s : SK) (v vc : Value) (at_ : Int) (Z : List Int) (z : Int) (w' : World) (hj : j < 7) (hg : G5 S j s at_) (hr : RdK s v w') (hc : Rd Z vc w') :
    Calls Tryz.prog 25 #[v, .agg #[.string (keyS z), .int .i64 (wtS z)], vc, .int .i64 at_] w' fun e w2 => ∃ u s' at' E, e = .returned (.tuple #[u, .int .i64 at', .int .i64 E]) ∧ (∀ w3, Abv w'.heap.size w2 w3 → RdK s' u w3) ∧ G5 S (j + 1) s' at' ∧ Below w'.heap.size w' w2 := by
  obtain ⟨rfl, f, h, W, rfl, hs, hW⟩ := hg
  obtain ⟨a1, c1, a2, c2, a3, c3, a4, c4, a5, c5, rfl, hrr⟩ := hr.run
  obtain ⟨_, ca, cc, rfl, _⟩ := hc
  have hi := item_ok z
  have hwt := wtS_bd z
  have hW8 : W + wtS z ≤ 1099511627776 := by
    have : (j : Int) * 4294967295 ≤ 7 * 4294967295 := Int.mul_le_mul_of_nonneg_right (by omega) (by decide)
    omega
  obtain ⟨hs2, he2⟩ := hs.ins hi hW8
  have e : (Value.agg (skA (fmQ f) (.slice a1 (fmQ f).c.L.length c1) (.slice a2 (fmQ f).l.L.length c2) (.slice a3 (fmQ f).t.L.length c3) (.slice a4 (fmQ f).f.L.length c4) (.slice a5 (fmQ f).r.L.length c5))) = .agg #[.int .i64 5, .int .i64 f.S, .int .i64 0, .int .u64 0, .int .i64 0, .int .i64 0, .bool false, .int .i64 0, .int .i64 0, .int .u64 0, .slice a1 0 c1, .bool false, .int .i64 0, .int .u64 0, .slice a2 0 c2, .int .i64 0, .int .i64 0, .slice a3 0 c3, .bool false, .int .i64 f.S, .int .i64 f.T, .int .i64 f.K, .slice a4 f.L.length c4, .bool f.s, .int .i64 0, .int .i64 0, .int .i64 0, .slice a5 0 c5, .bool false] := by kernel_rfl
  rw [e]
  refine (fin_5 f (insQ f (keyS z) (wtS z)) a1 c1 a2 c2 a3 c3 a4 c4 a5 c5 ca _ cc (keyS z) (wtS z) 0 w' (wf_fmQ (by have := hs.val.s0; have := hs.val.s1; unfold I64; omega) (by have := hs.val.small; omega)) hrr (prm_frq (by exact hs.val.s0) (by exact hs.val.s1)) (valQ_of hs.val) (by have := hs.val; unfold WfQ; exact ⟨⟨by have := this.s0; omega, by have := this.s1; omega⟩, ⟨by have := this.t0; omega, by have := this.t1; omega⟩, ⟨by have := this.k0; omega, by have := this.k1; omega⟩⟩) (key_len z) (by omega) (by omega) hi (by decide) (by decide) rfl he2 (hs2.hS.trans hs.hS.symm)).mono (fun e2 w2 hh => ?_)
  obtain ⟨u, hu, hst, hb⟩ := hh
  exact ⟨u, _, 0, 0, hu, hst, ⟨rfl, _, _, _, rfl, hs2, by push_cast; omega⟩, hb⟩
/-- SketchOf, kind 5. -/
theorem skof_frq (S : Int) (L : List Int) (v : Value) (w : World) (h0 : 1 ≤ S) (h1 : S ≤ 32) (hv : RdI L v w) :
    Calls Tryz.prog 21 #[.agg #[.int .i64 5, .int .i64 S, .int .i64 0, .int .u64 0], v] w fun e w' => ∃ u s, e = .returned u ∧ (∀ w3, Abv (w.heap.size + 2) w' w3 → RdK s u w3) ∧ (∃ (f : FQ) (h : ByteArray → Int) (W : Int), s = fmQ f ∧ Mg S h W f) ∧ Below w.heap.size w w' := by
  refine skof_any 5 S 0 0 L v w hv (fun s => ∃ (f : FQ) (h : ByteArray → Int) (W : Int), s = fmQ f ∧ Mg S h W f) (fun vi vc Z w' hi hc => ?_)
  have hl := soL_len L
  have hl7 := soN_le L
  refine (fill_any (G5 S) (soL L) Z 5 S 0 0 vi vc w' (by omega) hi hc (fun w2 => new_frq S w2 h0 h1) (fun j s v2 at_ w2 hj hg hr hc2 => ?_)).mono (fun e w2 hh => ?_)
  · obtain ⟨z, hz⟩ := soL_at L hj
    rw [hz]
    exact ins_frq S j s v2 vc at_ Z z w2 (by omega) hg hr hc2
  · obtain ⟨u, s, at_, hu, hst, ⟨_, x, h, W, hx, hs, _⟩, hb⟩ := hh
    exact ⟨u, s, hu, hst, ⟨x, h, W, hx, hs⟩, hb⟩
end Go.Proofs.YtjibbnknliamkaaGreatDoor
namespace Go.Proofs.YtjibbnknliamkaaGreatDoor
open Go.RowKit
set_option linter.unusedVariables false
set_option linter.unusedSimpArgs false
set_option maxRecDepth 100000 in
set_option maxHeartbeats 1000000 in
theorem pqv_1 (k : Int) (K : ByteArray) (n u d : Int) (w : World) (hK : K.size ≤ maxLen) (hk : k = 1) :
    Calls Tryz.prog 11 #[.agg #[.int .i64 k, .string K, .int .i64 n, .int .i64 u, .int .i64 d]] w fun e w' => e = .returned (.int .i64 (qrE k K n u d)) ∧ Below w.heap.size w w' := by
  subst hk
  go_enter Tryz.func11, Tryz.ntmps11
  go_wp2
  all_goals
    go_ret
    refine ⟨ret_int (by first | (simp [qrE, qrU, qrS, *] <;> omega) | (rename_i hlast; simp at hlast; simp [qrE, qrU, qrS, *] <;> omega)), ?_⟩
    repeat (first | exact Below.refl _ _ | refine bset ?_ _ _ _ (by simp <;> omega) | refine bal ?_ _ | refine below_drew ?_)
set_option maxRecDepth 100000 in
set_option maxHeartbeats 1000000 in
theorem pqv_3 (k : Int) (K : ByteArray) (n u d : Int) (w : World) (hK : K.size ≤ maxLen) (hk : k = 3) :
    Calls Tryz.prog 11 #[.agg #[.int .i64 k, .string K, .int .i64 n, .int .i64 u, .int .i64 d]] w fun e w' => e = .returned (.int .i64 (qrE k K n u d)) ∧ Below w.heap.size w w' := by
  subst hk
  go_enter Tryz.func11, Tryz.ntmps11
  go_wp2
  all_goals
    go_ret
    refine ⟨ret_int (by first | (simp [qrE, qrU, qrS, *] <;> omega) | (rename_i hlast; simp at hlast; simp [qrE, qrU, qrS, *] <;> omega)), ?_⟩
    repeat (first | exact Below.refl _ _ | refine bset ?_ _ _ _ (by simp <;> omega) | refine bal ?_ _ | refine below_drew ?_)
set_option maxRecDepth 100000 in
set_option maxHeartbeats 1000000 in
theorem pqv_4 (k : Int) (K : ByteArray) (n u d : Int) (w : World) (hK : K.size ≤ maxLen) (hk : k = 4) :
    Calls Tryz.prog 11 #[.agg #[.int .i64 k, .string K, .int .i64 n, .int .i64 u, .int .i64 d]] w fun e w' => e = .returned (.int .i64 (qrE k K n u d)) ∧ Below w.heap.size w w' := by
  subst hk
  go_enter Tryz.func11, Tryz.ntmps11
  go_wp2
  all_goals
    go_ret
    refine ⟨ret_int (by first | (simp [qrE, qrU, qrS, *] <;> omega) | (rename_i hlast; simp at hlast; simp [qrE, qrU, qrS, *] <;> omega)), ?_⟩
    repeat (first | exact Below.refl _ _ | refine bset ?_ _ _ _ (by simp <;> omega) | refine bal ?_ _ | refine below_drew ?_)
set_option maxRecDepth 100000 in
set_option maxHeartbeats 1000000 in
theorem pqv_2t (k : Int) (K : ByteArray) (n u d : Int) (w : World) (hK : K.size ≤ maxLen) (hk : k = 2) (hq : keyB (byt K) = true) :
    Calls Tryz.prog 11 #[.agg #[.int .i64 k, .string K, .int .i64 n, .int .i64 u, .int .i64 d]] w fun e w' => e = .returned (.int .i64 (qrE k K n u d)) ∧ Below w.heap.size w w' := by
  subst hk
  have HI := Lib.hid (fun w => isKey_any K w hK)
  rw [hq] at HI
  go_enter Tryz.func11, Tryz.ntmps11
  go_wp2_with (go_at_call 26; (with_reducible refine (HI.out _).mono ?_); rintro e w' ⟨rfl, rfl⟩)
  all_goals
    go_ret
    refine ⟨ret_int (by first | (simp [qrE, qrU, qrS, *] <;> omega) | (rename_i hlast; simp at hlast; simp [qrE, qrU, qrS, *] <;> omega)), ?_⟩
    repeat (first | exact Below.refl _ _ | refine bset ?_ _ _ _ (by simp <;> omega) | refine bal ?_ _ | refine below_drew ?_)
set_option maxRecDepth 100000 in
set_option maxHeartbeats 1000000 in
theorem pqv_2f (k : Int) (K : ByteArray) (n u d : Int) (w : World) (hK : K.size ≤ maxLen) (hk : k = 2) (hq : keyB (byt K) = false) :
    Calls Tryz.prog 11 #[.agg #[.int .i64 k, .string K, .int .i64 n, .int .i64 u, .int .i64 d]] w fun e w' => e = .returned (.int .i64 (qrE k K n u d)) ∧ Below w.heap.size w w' := by
  subst hk
  have HI := Lib.hid (fun w => isKey_any K w hK)
  rw [hq] at HI
  go_enter Tryz.func11, Tryz.ntmps11
  go_wp2_with (go_at_call 26; (with_reducible refine (HI.out _).mono ?_); rintro e w' ⟨rfl, rfl⟩)
  all_goals
    go_ret
    refine ⟨ret_int (by first | (simp [qrE, qrU, qrS, *] <;> omega) | (rename_i hlast; simp at hlast; simp [qrE, qrU, qrS, *] <;> omega)), ?_⟩
    repeat (first | exact Below.refl _ _ | refine bset ?_ _ _ _ (by simp <;> omega) | refine bal ?_ _ | refine below_drew ?_)
set_option maxRecDepth 100000 in
set_option maxHeartbeats 1000000 in
theorem pqv_6t (k : Int) (K : ByteArray) (n u d : Int) (w : World) (hK : K.size ≤ maxLen) (hk : k = 6) (hq : keyB (byt K) = true) :
    Calls Tryz.prog 11 #[.agg #[.int .i64 k, .string K, .int .i64 n, .int .i64 u, .int .i64 d]] w fun e w' => e = .returned (.int .i64 (qrE k K n u d)) ∧ Below w.heap.size w w' := by
  subst hk
  have HI := Lib.hid (fun w => isKey_any K w hK)
  rw [hq] at HI
  go_enter Tryz.func11, Tryz.ntmps11
  go_wp2_with (go_at_call 26; (with_reducible refine (HI.out _).mono ?_); rintro e w' ⟨rfl, rfl⟩)
  all_goals
    go_ret
    refine ⟨ret_int (by first | (simp [qrE, qrU, qrS, *] <;> omega) | (rename_i hlast; simp at hlast; simp [qrE, qrU, qrS, *] <;> omega)), ?_⟩
    repeat (first | exact Below.refl _ _ | refine bset ?_ _ _ _ (by simp <;> omega) | refine bal ?_ _ | refine below_drew ?_)
set_option maxRecDepth 100000 in
set_option maxHeartbeats 1000000 in
theorem pqv_6f (k : Int) (K : ByteArray) (n u d : Int) (w : World) (hK : K.size ≤ maxLen) (hk : k = 6) (hq : keyB (byt K) = false) :
    Calls Tryz.prog 11 #[.agg #[.int .i64 k, .string K, .int .i64 n, .int .i64 u, .int .i64 d]] w fun e w' => e = .returned (.int .i64 (qrE k K n u d)) ∧ Below w.heap.size w w' := by
  subst hk
  have HI := Lib.hid (fun w => isKey_any K w hK)
  rw [hq] at HI
  go_enter Tryz.func11, Tryz.ntmps11
  go_wp2_with (go_at_call 26; (with_reducible refine (HI.out _).mono ?_); rintro e w' ⟨rfl, rfl⟩)
  all_goals
    go_ret
    refine ⟨ret_int (by first | (simp [qrE, qrU, qrS, *] <;> omega) | (rename_i hlast; simp at hlast; simp [qrE, qrU, qrS, *] <;> omega)), ?_⟩
    repeat (first | exact Below.refl _ _ | refine bset ?_ _ _ _ (by simp <;> omega) | refine bal ?_ _ | refine below_drew ?_)
set_option maxRecDepth 100000 in
set_option maxHeartbeats 1000000 in
theorem pqv_5 (k : Int) (K : ByteArray) (n u d : Int) (w : World) (hK : K.size ≤ maxLen) (hk : k = 5) :
    Calls Tryz.prog 11 #[.agg #[.int .i64 k, .string K, .int .i64 n, .int .i64 u, .int .i64 d]] w fun e w' => e = .returned (.int .i64 (qrE k K n u d)) ∧ Below w.heap.size w w' := by
  subst hk
  go_enter Tryz.func11, Tryz.ntmps11
  go_wp2
  all_goals
    go_ret
    refine ⟨ret_int (by first | (simp [qrE, qrU, qrS, *] <;> omega) | (rename_i hlast; simp at hlast; simp [qrE, qrU, qrS, *] <;> omega)), ?_⟩
    repeat (first | exact Below.refl _ _ | refine bset ?_ _ _ _ (by simp <;> omega) | refine bal ?_ _ | refine below_drew ?_)
set_option maxRecDepth 100000 in
set_option maxHeartbeats 1000000 in
theorem pqv_7 (k : Int) (K : ByteArray) (n u d : Int) (w : World) (hK : K.size ≤ maxLen) (hk : k = 7) (hg : ¬ (d < 1 ∨ 1000000 < d ∨ u < 0 ∨ d < u)) :
    Calls Tryz.prog 11 #[.agg #[.int .i64 k, .string K, .int .i64 n, .int .i64 u, .int .i64 d]] w fun e w' => e = .returned (.int .i64 (qrE k K n u d)) ∧ Below w.heap.size w w' := by
  subst hk
  have hg1 : ¬ d < 1 := by omega
  have hg2 : ¬ 1000000 < d := by omega
  have hg3 : ¬ u < 0 := by omega
  have hg4 : ¬ d < u := by omega
  go_enter Tryz.func11, Tryz.ntmps11
  go_wp2
  go_region
  all_goals
    go_wp2
  all_goals
    go_ret
    refine ⟨ret_int (by first | (simp [qrE, qrU, qrS, *] <;> omega) | (rename_i hlast; simp at hlast; simp [qrE, qrU, qrS, *] <;> omega)), ?_⟩
    repeat (first | exact Below.refl _ _ | refine bset ?_ _ _ _ (by simp <;> omega) | refine bal ?_ _ | refine below_drew ?_)
set_option maxRecDepth 100000 in
set_option maxHeartbeats 1000000 in
theorem pqv_7b (k : Int) (K : ByteArray) (n u d : Int) (w : World) (hK : K.size ≤ maxLen) (hk : k = 7) (hg : d < 1 ∨ 1000000 < d ∨ u < 0 ∨ d < u) :
    Calls Tryz.prog 11 #[.agg #[.int .i64 k, .string K, .int .i64 n, .int .i64 u, .int .i64 d]] w fun e w' => e = .returned (.int .i64 (qrE k K n u d)) ∧ Below w.heap.size w w' := by
  subst hk
  have hE : qrE 7 K n u d = 5 := by simp [qrE, qrU, hg]
  rw [hE]
  by_cases hg1 : d < 1
  · go_enter Tryz.func11, Tryz.ntmps11
    go_wp2
    all_goals
      go_ret
      refine ⟨rfl, ?_⟩
      repeat (first | exact Below.refl _ _ | refine bset ?_ _ _ _ (by simp <;> omega) | refine bal ?_ _ | refine below_drew ?_)
  · by_cases hg2 : 1000000 < d
    · go_enter Tryz.func11, Tryz.ntmps11
      go_wp2
      all_goals
        go_ret
        refine ⟨rfl, ?_⟩
        repeat (first | exact Below.refl _ _ | refine bset ?_ _ _ _ (by simp <;> omega) | refine bal ?_ _ | refine below_drew ?_)
    · by_cases hg3 : u < 0
      · go_enter Tryz.func11, Tryz.ntmps11
        go_wp2
        all_goals
          go_ret
          refine ⟨rfl, ?_⟩
          repeat (first | exact Below.refl _ _ | refine bset ?_ _ _ _ (by simp <;> omega) | refine bal ?_ _ | refine below_drew ?_)
      · have hg4 : d < u := by omega
        go_enter Tryz.func11, Tryz.ntmps11
        go_wp2
        all_goals
          go_ret
          refine ⟨rfl, ?_⟩
          repeat (first | exact Below.refl _ _ | refine bset ?_ _ _ _ (by simp <;> omega) | refine bal ?_ _ | refine below_drew ?_)
set_option maxRecDepth 100000 in
set_option maxHeartbeats 1000000 in
theorem pqv_0 (k : Int) (K : ByteArray) (n u d : Int) (w : World) (hK : K.size ≤ maxLen) (hk : k < 1 ∨ 7 < k) :
    Calls Tryz.prog 11 #[.agg #[.int .i64 k, .string K, .int .i64 n, .int .i64 u, .int .i64 d]] w fun e w' => e = .returned (.int .i64 (qrE k K n u d)) ∧ Below w.heap.size w w' := by
  have hE : qrE k K n u d = 8 := by simp [qrE, hk]
  rw [hE]
  have h1 : ¬ k = 1 := by omega
  have h2 : ¬ k = 2 := by omega
  have h3 : ¬ k = 3 := by omega
  have h4 : ¬ k = 4 := by omega
  have h5 : ¬ k = 5 := by omega
  have h6 : ¬ k = 6 := by omega
  have h7 : ¬ k = 7 := by omega
  go_enter Tryz.func11, Tryz.ntmps11
  go_wp2
  all_goals
    go_ret
    refine ⟨rfl, ?_⟩
    repeat (first | exact Below.refl _ _ | refine bset ?_ _ _ _ (by simp <;> omega) | refine bal ?_ _ | refine below_drew ?_)
theorem pqv_any (k : Int) (K : ByteArray) (n u d : Int) (w : World) (hK : K.size ≤ maxLen) :
    Calls Tryz.prog 11 #[.agg #[.int .i64 k, .string K, .int .i64 n, .int .i64 u, .int .i64 d]] w fun e w' => e = .returned (.int .i64 (qrE k K n u d)) ∧ Below w.heap.size w w' := by
  rcases qr_cases k with h | h | h | h | h | h | h | h
  · exact pqv_1 k K n u d w hK h
  · cases hq : keyB (byt K)
    · exact pqv_2f k K n u d w hK h hq
    · exact pqv_2t k K n u d w hK h hq
  · exact pqv_3 k K n u d w hK h
  · exact pqv_4 k K n u d w hK h
  · exact pqv_5 k K n u d w hK h
  · cases hq : keyB (byt K)
    · exact pqv_6f k K n u d w hK h hq
    · exact pqv_6t k K n u d w hK h hq
  · by_cases hg : d < 1 ∨ 1000000 < d ∨ u < 0 ∨ d < u
    · exact pqv_7b k K n u d w hK h hg
    · exact pqv_7 k K n u d w hK h hg
  · exact pqv_0 k K n u d w hK h
end Go.Proofs.YtjibbnknliamkaaGreatDoor
