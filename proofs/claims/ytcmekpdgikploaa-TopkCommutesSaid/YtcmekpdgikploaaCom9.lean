/- Merging is commutative, and merging with a new summary changes nothing; made summaries. No program. -/
import Derived.Test.YtcmekpdgikploaaSpcM9
import Derived.Test.YtcmekpdgikploaaSkT
namespace Go.Proofs.Ytcmekpdgikploaa
open Go.RowKit
set_option linter.unusedVariables false
set_option linter.unusedSimpArgs false
theorem Keyed.nodup {L : List Ent} (h : Keyed L) : L.Nodup :=
  List.Pairwise.imp (fun {x y} hxy he => by subst he; rw [sameK_self] at hxy; cases hxy) h
theorem jn_mem {S : Int} {f g : ByteArray → Int} {V W : Int} {a b : TP} (ha : Spc S f V a) (hb : Spc S g W b) (x : Ent) :
    x ∈ jn (pAB a.L b.L (leastI S a.L) (leastI S b.L)) ↔ ∃ k, (hasK a.L k = true ∨ hasK b.L k = true) ∧ x = joinE (entAt a.L k (leastI S a.L)) (entAt b.L k (leastI S b.L)) := by
  unfold jn
  rw [List.mem_map]
  constructor
  · rintro ⟨p, hp, rfl⟩
    obtain ⟨k, rfl, hk⟩ := Spc.pair ha hb hp
    exact ⟨k, hk, rfl⟩
  · rintro ⟨k, hk, rfl⟩
    refine ⟨(entAt a.L k (leastI S a.L), entAt b.L k (leastI S b.L)), ?_, rfl⟩
    unfold pAB pB
    rw [List.take_length, List.mem_append]
    cases hka : hasK a.L k with
    | true =>
      obtain ⟨z, hz, rfl⟩ := (hasK_iff _ _).1 hka
      exact .inl (List.mem_map.2 ⟨z, hz, by unfold prA; rw [ha.key.find hz]⟩)
    | false =>
      rw [hka] at hk
      obtain ⟨z, hz, rfl⟩ := (hasK_iff _ _).1 (hk.resolve_left (by simp))
      exact .inr (List.mem_map.2 ⟨z, List.mem_filter.2 ⟨hz, by rw [hka]; rfl⟩, by unfold prB; rw [hb.key.find hz]⟩)
theorem tS_comm (a b : Int) : tS a b = tS b a := by unfold tS; rw [Int.add_comm]
theorem joinE_comm {x y : Ent} (h : x.k = y.k) : joinE x y = joinE y x := by
  unfold joinE
  rw [tS_comm x.c, tS_comm x.e, h]
theorem merL_comm {S : Int} {f g : ByteArray → Int} {V W : Int} {a b : TP} (ha : Spc S f V a) (hb : Spc S g W b) : merL S a.L b.L = merL S b.L a.L := by
  have k1 := jn_keyed ha.key hb.key (leastI S a.L) (leastI S b.L)
  have k2 := jn_keyed hb.key ha.key (leastI S b.L) (leastI S a.L)
  have p : (jn (pAB a.L b.L (leastI S a.L) (leastI S b.L))).Perm (jn (pAB b.L a.L (leastI S b.L) (leastI S a.L))) := by
    refine (List.perm_ext_iff_of_nodup k1.nodup k2.nodup).2 (fun x => ?_)
    rw [jn_mem ha hb, jn_mem hb ha]
    constructor
    · rintro ⟨k, hk, rfl⟩
      exact ⟨k, hk.symm, joinE_comm (by rw [entAt_key, entAt_key])⟩
    · rintro ⟨k, hk, rfl⟩
      exact ⟨k, hk.symm, joinE_comm (by rw [entAt_key, entAt_key])⟩
  unfold merL
  rw [sortE_perm_eq k1 p, p.length_eq]
theorem merTop_comm {S : Int} {f g : ByteArray → Int} {V W : Int} {a b : TP} (ha : Spc S f V a) (hb : Spc S g W b) (hw : V + W ≤ 1099511627776) : merTop a b = merTop b a := by
  have e1 := (ha.mer hb hw).2
  have e2 := (hb.mer ha (by omega)).2
  unfold merTop
  rw [if_neg (by rw [e1]; simp), if_neg (by rw [e2]; simp)]
  have f1 := Spc.flags ha hb hw
  have f2 := Spc.flags hb ha (by omega)
  have w0 := ha.w0
  have w1 := hb.w0
  rw [ha.hS, hb.hS, ha.hs, hb.hs, f1, f2, ha.hT, hb.hT, tS_comm, merL_comm ha hb, tF_sum w0 w1 hw, tF_sum w1 w0 (by omega)]
theorem merTop_new {S : Int} {f : ByteArray → Int} {V : Int} {a : TP} (ha : Spc S f V a) : merTop a (newT S) = a := by
  have s0 := ha.s0
  have s1 := ha.s1
  have hb := Spc.new s0 s1
  have w0 := ha.w0
  have w1 := ha.w1
  have e1 := (ha.mer hb (by omega)).2
  have f1 := Spc.flags ha hb (by omega)
  have eN : newT S = ⟨S, 0, [], false⟩ := by unfold newT; rw [if_neg (by omega)]
  rw [eN] at e1 f1 hb ⊢
  unfold merTop
  rw [if_neg (by rw [e1]; simp), ha.hS, ha.hs, ha.hT]
  dsimp only at f1 ⊢
  rw [f1, tS_sum w0 (by omega) (by omega), tF_sum w0 (by omega) (by omega), Int.add_zero]
  have l0 : leastI S ([] : List Ent) = 0 := by unfold leastI; rw [if_pos (.inl rfl)]
  have hJ : jn (pAB a.L [] (leastI S a.L) (leastI S ([] : List Ent))) = a.L := by
    unfold pAB pB newK jn
    rw [l0]
    simp only [List.take_nil, List.filter_nil, List.map_nil, List.append_nil, List.map_map]
    have : ∀ x ∈ a.L, ((fun p : Ent × Ent => joinE p.1 p.2) ∘ prA [] 0) x = x := fun x hx => by
      have he := entE_zero (ha.ent x hx)
      show joinE x (entAt [] x.k 0) = x
      rw [entAt_none (by rfl)]
      unfold joinE entOf
      dsimp only
      rw [tS_sum (by omega) (by omega) (by omega), tS_sum (by omega) (by omega) (by omega), Int.add_zero, Int.add_zero]
      obtain ⟨k, c, e⟩ := x
      dsimp only at he ⊢
      rw [show min e (c - 1) = e by omega]
    conv => rhs; rw [← List.map_id a.L]
    exact List.map_congr_left this
  have hL : merL S a.L [] = a.L := by
    unfold merL
    rw [hJ, sortE_self ha.srt ha.key]
    exact List.take_of_length_le (by have := ha.len; omega)
  rw [hL]
  obtain ⟨aS, aT, aL, ax⟩ := a
  have h1 := ha.hS
  have h2 := ha.hT
  have h3 := ha.hs
  dsimp only at h1 h2 h3 ⊢
  rw [h1, h2, h3]
  rfl
/-- A made summary is one of insertions. -/
theorem madeT_spc (S : Int) (l : List Int) : ∃ f W, Spc (1 + S % 4) f W (madeT S l) ∧ W ≤ 4294967295 * 10 := by
  unfold madeT
  have key : ∀ (l : List Int) (c : TP) (f : ByteArray → Int) (W : Int), Spc (1 + S % 4) f W c → W + 4294967295 * l.length ≤ 1099511627776 → ∃ g V, Spc (1 + S % 4) g V (mdT c l) ∧ V ≤ W + 4294967295 * l.length := by
    intro l
    induction l with
    | nil => intro c f W h _; exact ⟨f, W, h, by simp⟩
    | cons n l ih =>
      intro c f W h hw
      have hb := wtS_bd (n % 65536)
      simp only [List.length_cons] at hw ⊢
      rw [show ((l.length + 1 : Nat) : Int) = (l.length : Int) + 1 by omega] at hw ⊢
      have h2 := (h.ins (itemS (n % 65536)) (by omega)).1
      obtain ⟨g, V, h3, h4⟩ := ih _ _ _ h2 (by omega)
      exact ⟨g, V, h3, by omega⟩
  have hl : (l.take 10).length ≤ 10 := by rw [List.length_take]; omega
  obtain ⟨g, V, h3, h4⟩ := key (l.take 10) _ _ _ (Spc.new (S := 1 + S % 4) (by omega) (by omega)) (by omega)
  exact ⟨g, V, h3, by omega⟩
end Go.Proofs.Ytcmekpdgikploaa
