/- What settling does to ranks: a compaction on level i changes no rank by more than 2^i. No program. -/
import Derived.Test.YtdifilhfmbpalaaDoorRkQ
import Derived.Test.YtdifilhfmbpalaaDoorRkI2
namespace Go.Proofs.YtdifilhfmbpalaaDoor
open Go.RowKit
set_option linter.unusedVariables false
set_option linter.unusedSimpArgs false
theorem cntK_one (k x : ByteArray) : cntK k [x] = if lessK k x = true then 0 else 1 := rfl
theorem cntK_hd (k x : ByteArray) (l : List ByteArray) : cntK k (x :: l) = (if lessK k x = true then 0 else 1) + cntK k l := rfl
/-- In an ascending level the keys that are at most k come first. -/
theorem cntK_at {k : ByteArray} : ∀ {l : List ByteArray}, Asc l → ∀ j, j < l.length → (lessK k (l.getD j ByteArray.empty) = false ↔ j < cntK k l)
  | [], _, j, hj => by cases hj
  | x :: l, h, j, hj => by
    have h' := List.pairwise_cons.1 h
    cases hx : lessK k x with
    | true =>
      have h0 : cntK k (x :: l) = 0 := cntK_none (fun y hy => by
        rcases List.mem_cons.1 hy with rfl | hy
        · exact hx
        · cases hk : lessK k y with
          | true => rfl
          | false => have := leK_trans (h'.1 y hy) hk; rw [hx] at this; cases this)
      rw [h0]
      constructor
      · intro hf
        exfalso
        have hm : (x :: l).getD j ByteArray.empty ∈ x :: l := getD_mem hj
        rcases List.mem_cons.1 hm with he | he
        · rw [he, hx] at hf; cases hf
        · have := leK_trans (h'.1 _ he) hf; rw [hx] at this; cases this
      · intro hf; cases hf
    | false =>
      have hc : cntK k (x :: l) = 1 + cntK k l := by rw [cntK_hd, hx]; rfl
      rw [hc]
      cases j with
      | zero => exact ⟨fun _ => by omega, fun _ => hx⟩
      | succ j =>
        have := cntK_at (k := k) h'.2 j (by simpa using hj)
        rw [List.getD_cons_succ, this]
        omega
theorem cntK_pickn {k : ByteArray} {b : Nat} {s : List ByteArray} (hs : Asc s) (hb : b ≤ 1) : ∀ t, t ≤ s.length / 2 → cntK k (pickn b s t) = min t ((cntK k s + 1 - b) / 2)
  | 0, _ => by simp [pickn, cntK]
  | t + 1, ht => by
    have ih := cntK_pickn (k := k) hs hb t (by omega)
    rw [pickn_succ, cntK_app, ih]
    have h := cntK_at (k := k) hs (b + 2 * t) (by omega)
    cases hl : lessK k (s.getD (b + 2 * t) ByteArray.empty) with
    | false =>
      have := h.1 hl
      rw [cntK_one, hl, if_neg (by simp)]
      omega
    | true =>
      have : ¬ b + 2 * t < cntK k s := fun h2 => by rw [h.2 h2] at hl; cases hl
      rw [cntK_one, hl, if_pos rfl]
      omega
/-- Half of the keys, at twice the weight, and what is left: at most one more or less. -/
theorem cntK_half {k : ByteArray} {b : Nat} {s : List ByteArray} (hs : Asc s) (hb : b ≤ 1) : cntK k (rst s) + 2 * cntK k (pick b s) ≤ cntK k s + 1 ∧ cntK k s ≤ cntK k (rst s) + 2 * cntK k (pick b s) + 1 := by
  have h1 := cntK_pickn (k := k) hs hb (s.length / 2) (Nat.le_refl _)
  have hle := cntK_le k s
  have hr : cntK k (rst s) = if s.length % 2 = 1 ∧ cntK k s = s.length then 1 else 0 := by
    unfold rst
    by_cases hp : s.length % 2 = 1
    · have hlt : s.length / 2 * 2 < s.length := by omega
      rw [drop_getD (d := ByteArray.empty) hlt, List.drop_eq_nil_of_le (by omega)]
      have h := cntK_at (k := k) hs (s.length / 2 * 2) hlt
      cases hl : lessK k (s.getD (s.length / 2 * 2) ByteArray.empty) with
      | false =>
        have := h.1 hl
        rw [if_pos ⟨hp, by omega⟩, cntK_one, hl, if_neg (by simp)]
      | true =>
        have : ¬ s.length / 2 * 2 < cntK k s := fun h2 => by rw [h.2 h2] at hl; cases hl
        rw [if_neg (fun hh => by omega), cntK_one, hl, if_pos rfl]
    · rw [List.drop_eq_nil_of_le (by omega), if_neg (fun hh => hp hh.1)]
      rfl
  unfold pick
  rw [h1, hr]
  split <;> omega
theorem rnkN_addC (k : ByteArray) (i : Nat) (L : List (List ByteArray)) (c : List ByteArray) : rnkN k i (addC L c) = rnkN k i L + cntK k c * 2 ^ i := by
  cases L with
  | nil => cases c <;> simp [addC, rnkN, cntK]
  | cons l L => simp only [addC, rnkN, cntK_app, Nat.add_mul]; omega
theorem aS_step {K x : Int} (h0 : 0 ≤ K) (hx : 0 ≤ x) (d : Int) (h1 : d ≤ K + x) (h2 : d ≤ 1099511627776) : d ≤ aS K x := by
  unfold aS satN nat0
  split <;> omega
/-- The rank after settling, beside D: as near as the slack says. -/
theorem stl_rank {S : Int} {C : List Int} (h2 : 2 ≤ S) (k : ByteArray) (i : Nat) (L : List (List ByteArray)) (K a : Int) :
    ∀ (c D : Nat), 0 ≤ K → c + insN i L ≤ 1099511627776 → D ≤ 1099511627776 → ((c + rnkN k i L : Nat) : Int) - D ≤ K → (D : Int) - ((c + rnkN k i L : Nat) : Int) ≤ K →
      ((c + rnkN k i (stl S C i L K a).1 : Nat) : Int) - D ≤ (stl S C i L K a).2.1 ∧ (D : Int) - ((c + rnkN k i (stl S C i L K a).1 : Nat) : Int) ≤ (stl S C i L K a).2.1 := by
  refine stl_ind h2 (fun i L K a r => ∀ (c D : Nat), 0 ≤ K → c + insN i L ≤ 1099511627776 → D ≤ 1099511627776 → ((c + rnkN k i L : Nat) : Int) - D ≤ K → (D : Int) - ((c + rnkN k i L : Nat) : Int) ≤ K →
      ((c + rnkN k i r.1 : Nat) : Int) - D ≤ r.2.1 ∧ (D : Int) - ((c + rnkN k i r.1 : Nat) : Int) ≤ r.2.1) (fun _ _ _ _ _ _ _ _ h h' => ⟨h, h'⟩) (fun i l L K a r _ ih c D k0 hc hD h h' => ?_) (fun i l L K a r hs ih c D k0 hc hD h h' => ?_) i L K a
  · simp only [rnkN, insN] at hc h h' ⊢
    have hm := Nat.mul_le_mul_right (2 ^ i) (cntK_le k l)
    rw [cntK_perm (sortK_perm l)]
    generalize cntK k l * 2 ^ i = u at *
    generalize l.length * 2 ^ i = v at *
    have := ih (c + u) D k0 (by omega) hD (by omega) (by omega)
    omega
  · simp only [rnkN, insN] at hc h h' ⊢
    have hb := bitI_nat C a
    have hh := cntK_half (k := k) (sortK_sorted l) hb
    have hlen : (rst (sortK l)).length * 2 ^ i + (pick (bitI C a).toNat (sortK l)).length * 2 ^ (i + 1) = l.length * 2 ^ i := by
      rw [rst_len, pick_len, sortK_len]
      exact half_sum l.length i
    have hr1 := Nat.mul_le_mul_right (2 ^ i) (cntK_le k (rst (sortK l)))
    have hp1 := Nat.mul_le_mul_right (2 ^ (i + 1)) (cntK_le k (pick (bitI C a).toNat (sortK l)))
    have hrr := rnkN_le k L (i + 1)
    have hll := Nat.mul_le_mul_right (2 ^ i) (cntK_le k l)
    have hic := insN_addC (i + 1) L (pick (bitI C a).toNat (sortK l))
    have hrc := rnkN_addC k (i + 1) L (pick (bitI C a).toNat (sortK l))
    have hi2 : (0 : Int) ≤ 2 ^ i := Int.le_of_lt (Int.pow_pos (by decide))
    have hpw : ((2 ^ i : Nat) : Int) = (2 : Int) ^ i := by simp
    rw [cntK_perm (sortK_perm l)] at hh
    have e1 : cntK k (rst (sortK l)) * 2 ^ i + cntK k (pick (bitI C a).toNat (sortK l)) * 2 ^ (i + 1) ≤ cntK k l * 2 ^ i + 2 ^ i := by
      have := Nat.mul_le_mul_right (2 ^ i) hh.1
      rw [Nat.add_mul, Nat.add_mul, Nat.one_mul, Nat.mul_comm 2, Nat.mul_assoc] at this
      rw [Nat.pow_succ, Nat.mul_comm (2 ^ i) 2]
      exact this
    have e2 : cntK k l * 2 ^ i ≤ cntK k (rst (sortK l)) * 2 ^ i + cntK k (pick (bitI C a).toNat (sortK l)) * 2 ^ (i + 1) + 2 ^ i := by
      have := Nat.mul_le_mul_right (2 ^ i) hh.2
      rw [Nat.add_mul, Nat.add_mul, Nat.one_mul, Nat.mul_comm 2, Nat.mul_assoc] at this
      rw [Nat.pow_succ, Nat.mul_comm (2 ^ i) 2]
      exact this
    generalize rst (sortK l) = R at *
    generalize pick (bitI C a).toNat (sortK l) = P at *
    generalize cntK k R * 2 ^ i = u at *
    generalize R.length * 2 ^ i = v at *
    generalize cntK k l * 2 ^ i = x at *
    generalize l.length * 2 ^ i = y at *
    generalize cntK k P * 2 ^ (i + 1) = m at *
    generalize P.length * 2 ^ (i + 1) = n at *
    have g1 : ((c + u + rnkN k (i + 1) (addC L P) : Nat) : Int) - D ≤ aS K (2 ^ i) := aS_step k0 hi2 _ (by rw [hrc, ← hpw]; omega) (by rw [hrc]; omega)
    have g2 : (D : Int) - ((c + u + rnkN k (i + 1) (addC L P) : Nat) : Int) ≤ aS K (2 ^ i) := aS_step k0 hi2 _ (by rw [hrc, ← hpw]; omega) (by omega)
    have := ih (c + u) D (aS_bd _ _).1 (by rw [hic]; omega) hD g1 g2
    omega
theorem rep_rnkN (k : ByteArray) : ∀ (L : List (List ByteArray)) (n : Nat), L.length ≤ n → rnkN k 0 ((List.range n).map fun i => L.getD i []) = rnkN k 0 L := by
  intro L n h
  induction n with
  | zero =>
    have : L = [] := List.eq_nil_of_length_eq_zero (by omega)
    subst this
    rfl
  | succ n ih =>
    rw [List.range_succ, List.map_append, rnkN_app]
    by_cases hl : L.length ≤ n
    · rw [ih hl]
      simp [rnkN, cntK, List.getD, List.getElem?_eq_none hl]
    · have hn : L.length = n + 1 := by omega
      have e : (List.range n).map (fun i => L.getD i []) = L.take n := by
        refine ext_getD (by simp; omega) (fun i hi => ?_)
        rw [List.length_map, List.length_range] at hi
        simp [List.getD, List.getElem?_range hi, List.getElem?_take, hi]
      rw [e]
      simp only [List.map_cons, List.map_nil, List.length_take, rnkN]
      have h2 := rnkN_take (k := k) (L := L) (j := n) (by omega)
      rw [List.take_of_length_le (by omega)] at h2
      rw [h2, show min n L.length = n by omega]
      simp
theorem rnkN_map2 (k : ByteArray) (f g : Nat → List ByteArray) : ∀ n, rnkN k 0 ((List.range n).map fun i => f i ++ g i) = rnkN k 0 ((List.range n).map f) + rnkN k 0 ((List.range n).map g)
  | 0 => rfl
  | n + 1 => by
    rw [List.range_succ, List.map_append, List.map_append, List.map_append, rnkN_app, rnkN_app, rnkN_app, rnkN_map2 k f g n]
    simp only [List.map_cons, List.map_nil, List.length_map, List.length_range, rnkN, cntK_app, Nat.add_mul]
    omega
theorem rnkN_join (k : ByteArray) (A B : List (List ByteArray)) : rnkN k 0 (joinL A B) = rnkN k 0 A + rnkN k 0 B := by
  unfold joinL
  rw [rnkN_map2, rep_rnkN k A _ (by omega), rep_rnkN k B _ (by omega)]
theorem rnkN_all {k : ByteArray} : ∀ {L : List (List ByteArray)} {i : Nat}, (∀ l ∈ L, ∀ x ∈ l, lessK k x = false) → rnkN k i L = insN i L
  | [], _, _ => rfl
  | l :: L, i, h => by
    have h1 := rnkN_all (L := L) (i := i + 1) (fun m hm => h m (List.mem_cons_of_mem _ hm))
    have h2 := cntK_all (h l (List.mem_cons_self ..))
    simp only [rnkN, insN, h1, h2]
theorem rnkN_none {k : ByteArray} : ∀ {L : List (List ByteArray)} {i : Nat}, (∀ l ∈ L, ∀ x ∈ l, lessK k x = true) → rnkN k i L = 0
  | [], _, _ => rfl
  | l :: L, i, h => by
    have h1 := rnkN_none (L := L) (i := i + 1) (fun m hm => h m (List.mem_cons_of_mem _ hm))
    have h2 := cntK_none (h l (List.mem_cons_self ..))
    simp only [rnkN, h1, h2]
    omega
/-- A valid summary whose rank of k is as near to D as its slack says. -/
structure Kn (k : ByteArray) (t : RK) (D : Nat) : Prop where
  v : ValR t.S t.T t.K t.L
  d : (D : Int) ≤ t.T
  up : ((rnkN k 0 t.L : Nat) : Int) - D ≤ t.K
  dn : (D : Int) - ((rnkN k 0 t.L : Nat) : Int) ≤ t.K
theorem Kn.one {S : Int} {k x : ByteArray} {r : Int} (h0 : 2 ≤ S) (h1 : S ≤ 32) (h2 : S % 2 = 0) (hk : keyB (byt x) = true) (r0 : 1 ≤ r) (r1 : r ≤ 4294967295) : Kn k (oneR S x r) (if lessK k x = true then 0 else r.toNat) := by
  have hv := one_val (k := x) h0 h1 h2 hk r0 r1
  have hi := aloneL_ins x r.toNat (by omega) (by omega)
  have hall : ∀ l ∈ aloneL x r.toNat, ∀ y ∈ l, y = x := aloneL_key
  cases hl : lessK k x with
  | true =>
    have hn : rnkN k 0 (aloneL x r.toNat) = 0 := rnkN_none (fun l hl2 y hy => by rw [hall l hl2 y hy]; exact hl)
    refine ⟨hv, ?_, ?_, ?_⟩
    · show (((if true = true then 0 else r.toNat) : Nat) : Int) ≤ r
      simp; omega
    · show ((rnkN k 0 (aloneL x r.toNat) : Nat) : Int) - _ ≤ 0
      rw [hn]; simp
    · show _ - ((rnkN k 0 (aloneL x r.toNat) : Nat) : Int) ≤ 0
      rw [hn]; simp
  | false =>
    have hn : rnkN k 0 (aloneL x r.toNat) = r.toNat := by rw [rnkN_all (fun l hl2 y hy => by rw [hall l hl2 y hy]; exact hl), hi]
    refine ⟨hv, ?_, ?_, ?_⟩
    · show (((if false = true then 0 else r.toNat) : Nat) : Int) ≤ r
      simp; omega
    · show ((rnkN k 0 (aloneL x r.toNat) : Nat) : Int) - _ ≤ 0
      rw [hn]; simp
    · show _ - ((rnkN k 0 (aloneL x r.toNat) : Nat) : Int) ≤ 0
      rw [hn]; simp
theorem Kn.sum {k : ByteArray} {A B : RK} {D E : Nat} (hA : Kn k A D) (hB : Kn k B E) (Z : List Int) (a : Int) (hF : aF A.T B.T = false) : Kn k (sumK A B Z a).1 (D + E) ∧ (sumK A B Z a).1.T = A.T + B.T ∧ (sumK A B Z a).1.s = (A.s || B.s) ∧ (sumK A B Z a).1.S = A.S := by
  have hv := sumK_val (Z := Z) (a := a) hA.v hB.v
  obtain ⟨hT, hT2⟩ := aF_false hF hA.v.t0 hB.v.t0
  have hins := insN_join A.L B.L
  have hrk := rnkN_join k A.L B.L
  have sA := hA.v.sum
  have sB := hB.v.sum
  have d1 := hA.d
  have d2 := hB.d
  have u1 := hA.up
  have u2 := hB.up
  have n1 := hA.dn
  have n2 := hB.dn
  have hle := rnkN_le k (joinL A.L B.L) 0
  have hr := stl_rank (S := A.S) (C := Z) hA.v.s0 k 0 (joinL A.L B.L) (aS A.K B.K) a 0 (D + E) (aS_bd _ _).1 (by omega) (by omega) (aS_step hA.v.k0 hB.v.k0 _ (by omega) (by omega)) (aS_step hA.v.k0 hB.v.k0 _ (by omega) (by omega))
  unfold sumK at hv ⊢
  rw [if_neg (by rw [hF]; simp)] at hv ⊢
  refine ⟨⟨hv, ?_, ?_, ?_⟩, hT2, rfl, rfl⟩
  · dsimp only; rw [hT2]; omega
  · dsimp only; have := hr.1; rw [Nat.zero_add] at this; exact this
  · dsimp only; have := hr.2; rw [Nat.zero_add] at this; exact this
theorem Kn.new {S : Int} (h : szR S = true) (k : ByteArray) : Kn k ⟨S, 0, 0, [], false⟩ 0 := by
  have hs := (szR_iff S).1 h
  exact ⟨⟨hs.1, hs.2.1, hs.2.2, by dsimp only; omega, by dsimp only; omega, by dsimp only; omega, by dsimp only; omega, by simp, by simp, lastE_nil, rfl⟩, by dsimp only; omega, by simp [rnkN], by simp [rnkN]⟩
end Go.Proofs.YtdifilhfmbpalaaDoor
