/- A merge keeps what summaries know. No program. -/
import Derived.Test.YtcmekpdgikploaaSpcI9
namespace Go.Proofs.Ytcmekpdgikploaa
open Go.RowKit
set_option linter.unusedVariables false
set_option linter.unusedSimpArgs false
/-- The count of a key. -/
def cntK (L : List Ent) (l : Int) (k : ByteArray) : Int := (entAt L k l).c
def sumK (L : List Ent) (l : Int) : List Ent → Int
  | [] => 0
  | y :: M => cntK L l y.k + sumK L l M
/-- The entries of L whose keys have none in M; how many keys of M have none in L. -/
def restK (L M : List Ent) : List Ent := L.filter (fun x => !hasK M x.k)
def newN (L : List Ent) : List Ent → Nat
  | [] => 0
  | y :: M => (if hasK L y.k = true then 0 else 1) + newN L M
theorem filter_key {F : List Ent} (h : Keyed F) (k : ByteArray) (l : Int) :
    sumC (F.filter (fun x => !sameK x.k k)) + (if hasK F k = true then cntK F l k else 0) = sumC F ∧ (F.filter (fun x => !sameK x.k k)).length + (if hasK F k = true then 1 else 0) = F.length := by
  cases hk : hasK F k with
  | false =>
    have e : F.filter (fun x => !sameK x.k k) = F := List.filter_eq_self.2 (fun x hx => by rw [hasK_not hk hx]; rfl)
    rw [e, if_neg (by simp), if_neg (by simp)]
    omega
  | true =>
    rw [if_pos rfl, if_pos rfl]
    obtain ⟨x, hx, rfl⟩ := (hasK_iff _ _).1 hk
    unfold cntK
    rw [h.find hx]
    clear hk
    induction F with
    | nil => cases hx
    | cons y F ih =>
      have hk := h
      unfold Keyed at hk
      rw [List.pairwise_cons] at hk
      rcases List.mem_cons.1 hx with rfl | hx'
      · have e : F.filter (fun z => !sameK z.k x.k) = F := List.filter_eq_self.2 (fun z hz => by rw [sameK_comm, hk.1 z hz]; rfl)
        rw [List.filter_cons, if_neg (by rw [sameK_self]; simp), e]
        refine ⟨?_, ?_⟩
        · simp only [sumC]; omega
        · simp only [List.length_cons]
      · have := ih hk.2 hx'
        rw [List.filter_cons, if_pos (by rw [hk.1 x hx']; rfl)]
        simp only [sumC, List.length_cons]
        omega
theorem restK_cons (L : List Ent) (y : Ent) (M : List Ent) : restK L (y :: M) = (restK L M).filter (fun x => !sameK x.k y.k) := by
  unfold restK
  rw [List.filter_filter]
  congr 1
  funext x
  simp only [hasK, List.any_cons, Bool.not_or]
  rw [sameK_comm]
theorem sumK_eq {L : List Ent} (h : Keyed L) (l : Int) : ∀ {M : List Ent}, Keyed M → sumK L l M + sumC (restK L M) = sumC L + l * newN L M ∧ M.length + (restK L M).length = L.length + newN L M
  | [], _ => by
    have e : restK L [] = L := List.filter_eq_self.2 (fun x _ => by simp [hasK])
    rw [e]
    simp only [sumK, newN, List.length_nil]
    omega
  | y :: M, hM => by
    have hM' := hM
    unfold Keyed at hM'
    rw [List.pairwise_cons] at hM'
    obtain ⟨i1, i2⟩ := sumK_eq h l hM'.2
    have hF : Keyed (restK L M) := List.Pairwise.sublist List.filter_sublist h
    obtain ⟨f1, f2⟩ := filter_key hF y.k l
    have hyM : hasK M y.k = false := by
      cases hh : hasK M y.k with
      | false => rfl
      | true =>
        obtain ⟨z, hz, he⟩ := (hasK_iff _ _).1 hh
        have := hM'.1 z hz
        rw [he, sameK_self] at this
        cases this
    have hhas : hasK (restK L M) y.k = hasK L y.k := by
      cases hh : hasK L y.k with
      | true =>
        obtain ⟨z, hz, he⟩ := (hasK_iff _ _).1 hh
        refine (hasK_iff _ _).2 ⟨z, List.mem_filter.2 ⟨hz, by rw [he, hyM]; rfl⟩, he⟩
      | false =>
        cases hr : hasK (restK L M) y.k with
        | false => rfl
        | true =>
          obtain ⟨z, hz, he⟩ := (hasK_iff _ _).1 hr
          rw [(hasK_iff _ _).2 ⟨z, (List.mem_filter.1 hz).1, he⟩] at hh
          cases hh
    have hcnt : hasK L y.k = true → cntK (restK L M) l y.k = cntK L l y.k := fun hh => by
      obtain ⟨z, hz, he⟩ := (hasK_iff _ _).1 hh
      have hz' : z ∈ restK L M := List.mem_filter.2 ⟨hz, by rw [he, hyM]; rfl⟩
      unfold cntK
      rw [← he, h.find hz, hF.find hz']
    have hnone : hasK L y.k = false → cntK L l y.k = l := fun hh => by unfold cntK; rw [entAt_none hh]
    rw [restK_cons]
    simp only [sumK, newN, List.length_cons]
    rw [hhas] at f1 f2
    cases hh : hasK L y.k with
    | true =>
      rw [hh] at f1 f2
      rw [if_pos rfl] at f1 f2 ⊢
      rw [hcnt hh] at f1
      rw [Nat.zero_add]
      omega
    | false =>
      rw [hh] at f1 f2
      rw [if_neg (by simp)] at f1 f2 ⊢
      rw [hnone hh, show ((1 + newN L M : Nat) : Int) = 1 + (newN L M : Int) by omega, Int.mul_add]
      omega
/-- Any keys, no more than the size, have at most the total together. -/
theorem Spc.keys {S : Int} {f : ByteArray → Int} {W : Int} {c : TP} (h : Spc S f W c) {M : List Ent} (hM : Keyed M) (hl : (M.length : Int) ≤ S) : sumK c.L (leastI S c.L) M ≤ W := by
  obtain ⟨e1, e2⟩ := sumK_eq h.key (leastI S c.L) hM
  have hs := h.sum
  have h0 : ∀ x ∈ restK c.L M, leastI S c.L ≤ x.c := fun x hx => leastI_le h.srt h.c0 (List.mem_filter.1 hx).1
  have h1 := sumC_ge h0
  have hp := leastI_pos (S := S) h.c0
  by_cases hc : (c.L.length : Int) = S
  · have hn : (newN c.L M : Int) ≤ (restK c.L M).length := by omega
    have := Int.mul_le_mul_of_nonneg_left hn hp
    omega
  · rw [leastI_room hc] at e1 h1
    rw [leastI_room hc]
    omega
/-- What a merged entry is. -/
theorem Spc.pair {S : Int} {f g : ByteArray → Int} {V W : Int} {a b : TP} (ha : Spc S f V a) (hb : Spc S g W b) {p : Ent × Ent} (hp : p ∈ pAB a.L b.L (leastI S a.L) (leastI S b.L)) :
    ∃ k, p = (entAt a.L k (leastI S a.L), entAt b.L k (leastI S b.L)) ∧ (hasK a.L k = true ∨ hasK b.L k = true) := by
  unfold pAB pB at hp
  rw [List.take_length] at hp
  rcases List.mem_append.1 hp with hp | hp
  · obtain ⟨x, hx, rfl⟩ := List.mem_map.1 hp
    exact ⟨x.k, by unfold prA; rw [ha.key.find hx], .inl ((hasK_iff _ _).2 ⟨x, hx, rfl⟩)⟩
  · obtain ⟨y, hy, rfl⟩ := List.mem_map.1 hp
    have hy' := (List.mem_filter.1 hy).1
    exact ⟨y.k, by unfold prB; rw [hb.key.find hy'], .inr ((hasK_iff _ _).2 ⟨y, hy', rfl⟩)⟩
theorem map_keyed {L : List Ent} (h : Keyed L) {q : Ent → Ent × Ent} (hq : ∀ x ∈ L, (q x).1.k = x.k) : Keyed (jn (L.map q)) := by
  unfold Keyed jn
  rw [List.map_map, List.pairwise_map]
  refine List.Pairwise.imp_of_mem ?_ h
  intro x y hx hy hxy
  show sameK (joinE (q x).1 (q x).2).k (joinE (q y).1 (q y).2).k = false
  rw [joinE_key, joinE_key, hq x hx, hq y hy]
  exact hxy
theorem jn_keyed {L M : List Ent} (hL : Keyed L) (hM : Keyed M) (la lb : Int) : Keyed (jn (pAB L M la lb)) := by
  unfold pAB pB
  rw [List.take_length]
  have e : jn (L.map (prA M lb) ++ (newK L M).map (prB L la)) = jn (L.map (prA M lb)) ++ jn ((newK L M).map (prB L la)) := by simp [jn]
  rw [e]
  have h1 := map_keyed hL (q := prA M lb) (fun x _ => rfl)
  have h2 := map_keyed (L := newK L M) (List.Pairwise.sublist List.filter_sublist hM) (q := prB L la) (fun y _ => entAt_key _ _ _)
  unfold Keyed at h1 h2 ⊢
  rw [List.pairwise_append]
  refine ⟨h1, h2, fun x hx y hy => ?_⟩
  have hx' : hasK L x.k = true := by rw [← hasK_map (L := L) (f := prA M lb) (fun x _ => rfl)]; exact (hasK_iff _ _).2 ⟨x, hx, rfl⟩
  have hy' : hasK L y.k = false := by
    unfold jn at hy
    rw [List.map_map] at hy
    obtain ⟨z, hz, rfl⟩ := List.mem_map.1 hy
    have := (List.mem_filter.1 hz).2
    show hasK L (joinE (entAt L z.k la) z).k = false
    rw [joinE_key, entAt_key]
    simpa using this
  cases hs : sameK x.k y.k with
  | false => rfl
  | true => rw [(sameK_iff _ _).1 hs, hy'] at hx'; cases hx'
/-- The merge's entries, before they are sorted and cut. -/
theorem Spc.joined {S : Int} {f g : ByteArray → Int} {V W : Int} {a b : TP} (ha : Spc S f V a) (hb : Spc S g W b) (hw : V + W ≤ 1099511627776) {x : Ent} (hx : x ∈ jn (pAB a.L b.L (leastI S a.L) (leastI S b.L))) :
    x.c = cntK a.L (leastI S a.L) x.k + cntK b.L (leastI S b.L) x.k ∧ entE x = 0 ∧ x.e * S ≤ V + W ∧ x.c - x.e ≤ f x.k + g x.k ∧ f x.k + g x.k ≤ x.c ∧ leastI S a.L + leastI S b.L ≤ x.c ∧ (hasK a.L x.k = true ∨ hasK b.L x.k = true) := by
  unfold jn at hx
  obtain ⟨p, hp, rfl⟩ := List.mem_map.1 hx
  obtain ⟨k, rfl, hk⟩ := Spc.pair ha hb hp
  obtain ⟨a1, a2, a3, a4, a5, a6, a7⟩ := ha.any k
  obtain ⟨b1, b2, b3, b4, b5, b6, b7⟩ := hb.any k
  have pa := leastI_pos (S := S) ha.c0
  have pb := leastI_pos (S := S) hb.c0
  have hka := entAt_key a.L k (leastI S a.L)
  have hlt : keyB (byt k) = true ∧ ((entAt a.L k (leastI S a.L)).e < (entAt a.L k (leastI S a.L)).c ∨ (entAt b.L k (leastI S b.L)).e < (entAt b.L k (leastI S b.L)).c) := by
    rcases hk with hk | hk
    · obtain ⟨z, hz, he⟩ := (hasK_iff _ _).1 hk
      have hf := ha.key.find hz (leastI S a.L)
      rw [he] at hf
      have := entE_zero (ha.ent z hz)
      rw [he] at this
      exact ⟨this.1, .inl (by rw [hf]; omega)⟩
    · obtain ⟨z, hz, he⟩ := (hasK_iff _ _).1 hk
      have hf := hb.key.find hz (leastI S b.L)
      rw [he] at hf
      have := entE_zero (hb.ent z hz)
      rw [he] at this
      exact ⟨this.1, .inr (by rw [hf]; omega)⟩
  have ej : joinE (entAt a.L k (leastI S a.L)) (entAt b.L k (leastI S b.L)) = ⟨k, (entAt a.L k (leastI S a.L)).c + (entAt b.L k (leastI S b.L)).c, (entAt a.L k (leastI S a.L)).e + (entAt b.L k (leastI S b.L)).e⟩ := by
    unfold joinE entOf
    rw [tS_sum (by omega) (by omega) (by omega), tS_sum (by omega) (by omega) (by omega), hka]
    congr 1
    omega
  rw [ej]
  unfold cntK
  dsimp only
  refine ⟨rfl, entE_of hlt.1 (by dsimp only; omega) (by dsimp only; omega) (by dsimp only; omega) (by dsimp only; omega), ?_, by omega, by omega, by omega, hk⟩
  rw [Int.add_mul]
  omega
theorem Spc.flags {S : Int} {f g : ByteArray → Int} {V W : Int} {a b : TP} (ha : Spc S f V a) (hb : Spc S g W b) (hw : V + W ≤ 1099511627776) : jf (pAB a.L b.L (leastI S a.L) (leastI S b.L)) = false := by
  cases h : jf (pAB a.L b.L (leastI S a.L) (leastI S b.L)) with
  | false => rfl
  | true =>
    unfold jf at h
    obtain ⟨p, hp, hf⟩ := List.any_eq_true.1 h
    obtain ⟨k, rfl, hk⟩ := Spc.pair ha hb hp
    obtain ⟨a1, a2, a3, a4, a5, a6, a7⟩ := ha.any k
    obtain ⟨b1, b2, b3, b4, b5, b6, b7⟩ := hb.any k
    have pa := leastI_pos (S := S) ha.c0
    have pb := leastI_pos (S := S) hb.c0
    unfold joinF at hf
    dsimp only at hf
    rw [tF_sum (by omega) (by omega) (by omega), tF_sum (by omega) (by omega) (by omega)] at hf
    cases hf
theorem sumK_two {L M : List Ent} {l m : Int} {J : List Ent} (h : ∀ x ∈ J, x.c = cntK L l x.k + cntK M m x.k) : sumC J = sumK L l J + sumK M m J := by
  induction J with
  | nil => rfl
  | cons x J ih =>
    have h1 := h x (List.mem_cons_self ..)
    have h2 := ih (fun y hy => h y (List.mem_cons_of_mem _ hy))
    simp only [sumC, sumK]
    omega
theorem Spc.mer {S : Int} {f g : ByteArray → Int} {V W : Int} {a b : TP} (ha : Spc S f V a) (hb : Spc S g W b) (hw : V + W ≤ 1099511627776) : Spc S (fun k => f k + g k) (V + W) (merTop a b) ∧ merE a b = 0 := by
  have hE : merE a b = 0 := by unfold merE; rw [if_neg (by rw [ha.valid]; simp), if_neg (by rw [hb.valid]; simp), if_neg (by rw [ha.hS, hb.hS]; simp)]
  refine ⟨?_, hE⟩
  have w0 := ha.w0
  have w0' := hb.w0
  have s0 := ha.s0
  have hJ := fun x hx => Spc.joined ha hb hw (x := x) hx
  have hjk := jn_keyed ha.key hb.key (leastI S a.L) (leastI S b.L)
  have hhas := fun k => hasK_pB a.L b.L (leastI S a.L) (leastI S b.L) b.L.length k
  have hlen : (a.L.length : Int) ≤ (jn (pAB a.L b.L (leastI S a.L) (leastI S b.L))).length ∧ (b.L.length : Int) ≤ (jn (pAB a.L b.L (leastI S a.L) (leastI S b.L))).length := by
    have e : (jn (pAB a.L b.L (leastI S a.L) (leastI S b.L))).length = a.L.length + (newK a.L b.L).length := by
      unfold pAB pB
      rw [jn_len, List.take_length, List.length_append, List.length_map, List.length_map]
    refine ⟨by omega, ?_⟩
    have h2 := (sumK_eq (L := a.L) ha.key 0 hb.key).2
    have h3 : newN a.L b.L = (newK a.L b.L).length := by
      unfold newK
      generalize b.L = M
      induction M with
      | nil => rfl
      | cons y M ih =>
        rw [List.filter_cons]
        simp only [newN]
        cases hh : hasK a.L y.k with
        | true => rw [if_pos rfl, if_neg (by simp), ih]; omega
        | false => rw [if_neg (by simp), if_pos (by simp), ih, List.length_cons]; omega
    have : (restK a.L b.L).length ≤ a.L.length := List.length_filter_le _ _
    omega
  have hfl := Spc.flags ha hb hw
  unfold merTop
  rw [if_neg (by rw [hE]; simp), ha.hS, ha.hs, hb.hs, hfl, ha.hT, hb.hT, tS_sum w0 w0' hw, tF_sum w0 w0' hw]
  unfold merL
  unfold pAB at *
  generalize hJd : jn (pB a.L b.L (leastI S a.L) (leastI S b.L) b.L.length) = J at *
  have p := sortE_perm J
  have hlS := sortE_len J
  have hso := sortE_sorted hjk
  have hks := hjk.perm p
  have hm : ∀ {x}, x ∈ sortE J → x ∈ J := fun h => p.mem_iff.1 h
  generalize sortE J = R at *
  generalize hq : min J.length S.toNat = m
  have hmR : m ≤ R.length := by omega
  have hT : ∀ {x}, x ∈ R.take m → x ∈ J := fun h => hm (List.mem_of_mem_take h)
  have hc0 : ∀ x ∈ R.take m, 0 ≤ x.c := fun x hx => by have := entE_zero (hJ x (hT hx)).2.1; omega
  have hkT : Keyed (R.take m) := List.Pairwise.sublist (List.take_sublist _ _) hks
  have hlT : ((R.take m).length : Int) ≤ S := by rw [List.length_take]; omega
  have hlT2 : (R.take m).length = m := by rw [List.length_take]; omega
  refine ⟨rfl, s0, ha.s1, rfl, by omega, hw, rfl, hlT, hkT, List.Pairwise.sublist (List.take_sublist _ _) hso, fun x hx => (hJ x (hT hx)).2.1, ?_, fun x hx => (hJ x (hT hx)).2.2.1, fun x hx => ⟨(hJ x (hT hx)).2.2.2.1, (hJ x (hT hx)).2.2.2.2.1⟩, fun k hk => ?_, fun k => by have := ha.pos k; have := hb.pos k; omega⟩
  · have e := sumK_two (J := R.take m) (fun x hx => (hJ x (hT hx)).1)
    have k1 := ha.keys hkT hlT
    have k2 := hb.keys hkT hlT
    dsimp only
    omega
  · dsimp only at hk ⊢
    refine leastI_ge hc0 s0 ?_
    cases hh : hasK J k with
    | false =>
      rw [hhas k, List.take_length] at hh
      obtain ⟨h1, h2⟩ := Bool.or_eq_false_iff.1 hh
      have u1 := ha.un k h1
      have u2 := hb.un k h2
      by_cases hfull : (J.length : Int) < S
      · rw [leastI_room (by omega)] at u1 u2
        exact .inl (by omega)
      · refine .inr ⟨by omega, fun x hx => ?_⟩
        have := (hJ x (hT hx)).2.2.2.2.2.1
        omega
    | true =>
      obtain ⟨y, hy, he⟩ := (hasK_iff _ _).1 hh
      have hyR := p.symm.mem_iff.1 hy
      obtain ⟨i, hi, rfl⟩ := List.mem_iff_getElem.1 hyR
      have him : m ≤ i := by
        rcases Nat.lt_or_ge i m with h | h
        · rw [(hasK_iff _ _).2 ⟨R[i], List.mem_take_iff_getElem.2 ⟨i, by omega, rfl⟩, he⟩] at hk
          cases hk
        · exact h
      refine .inr ⟨by omega, fun x hx => ?_⟩
      obtain ⟨j, hj, rfl⟩ := List.mem_take_iff_getElem.1 hx
      have hb' := List.pairwise_iff_getElem.1 hso j i (by omega) hi (by omega)
      have hfy := (hJ _ hy).2.2.2.2.1
      rw [he] at hfy
      rcases (bef_iff _ _).1 hb' with h | ⟨h, _⟩ <;> omega
end Go.Proofs.Ytcmekpdgikploaa
