/- slices.Clone, Insert and Delete at pins of the call's own. -/
import Derived.Test.YtledpfdflcmlcaaPnB
import Derived.Test.YtledpfdflcmlcaaSlC
namespace Go.Proofs.Ytledpfdflcmlcaa
open Go.RowKit
set_option linter.unusedVariables false
set_option linter.unusedSimpArgs false
theorem info_pn2 : (Try.prog.info? 38).map (·.size) = some 2 := by
  obtain ⟨i0, hi, hz0, hz1, hz2⟩ := info_parts info_pn
  rw [hi]; simp [hz1]
theorem OwnPn.newNil (w : World) : OwnPn w.heap.size [] (.slice (some ⟨w.heap.size, 0, none⟩) 0 0) (w.alloc (.cells #[] 38)) := ⟨PnOk.nil, World.ownsRow_made w #[] 0 (Nat.le_refl _) (Nat.zero_le _) rfl⟩
set_option maxRecDepth 100000 in
theorem clonePn_any (L : List Pn) (v : Value) (w : World) (h : RdPn L v w) (hn : L.length ≤ 1000000) :
    Calls Try.prog 22 #[v] w fun e w' => ∃ v, e = .returned v ∧ OwnPn w.heap.size L v w' ∧ Below w.heap.size w w' := by
  obtain ⟨a, cap, rfl⟩ := h.shape
  have HR := Lib.hid h
  cases a with
  | none =>
    obtain ⟨hy, a, cap', he, h1, h2, h3⟩ := h
    have hl : L = [] := by
      apply List.eq_nil_of_length_eq_zero
      cases Nat.eq_zero_or_pos L.length with
      | inl h => exact h
      | inr h => obtain ⟨b, off, hb, _⟩ := h3 h; subst hb; cases he
    subst hl
    clear he h3 hy h1 h2
    have hq := fun w => Go.Lib.run_eql_slice_nil w 23 38 none 0 cap 0 0 Try.underlying23
    simp only [List.length_nil]
    go_enter Try.func22, Try.ntmps22
    go_wp2
    go_ret
    exact ⟨_, rfl, OwnPn.empty _ _, Below.refl _ _⟩
  | some ad =>
    have HS := Lib.hid (RdPn.below h (b1 (.cells #[] 38))).src
    have HO := Lib.hid (OwnPn.newNil w)
    clear h
    have hq := fun w => Go.Lib.run_eql_slice_nil w 23 38 (some ad) L.length cap 0 0 Try.underlying23
    go_enter Try.func22, Try.ntmps22
    go_wp2_with (at_builtin; refine wp_appPn rfl _ _ _ rfl w.heap.size [] L _ _ rfl rfl HO.out HS.out ?c1 ?c2 ?_)
    case c1 => simp
    case c2 => simp; omega
    intro v' w' ho hb
    have HO' := Lib.hid ho
    have HB' := Lib.hid hb
    clear ho hb
    go_wp2
    go_ret
    exact ⟨_, rfl, HO'.out, (b1 _).trans HB'.out⟩
theorem cellsPn_take : ∀ (L : List Pn) (i : Nat), cellsPn (L.take i) = (cellsPn L).take (i * 2)
  | [], i => by simp [cellsPn]
  | x :: L, 0 => by simp [cellsPn]
  | x :: L, i + 1 => by
    rw [List.take_succ_cons, cellsPn, cellsPn, cellsPn_take L i, show (i + 1) * 2 = 2 + i * 2 by omega, Pn.cs]
    simp [List.take_append, Nat.add_comm 2]
theorem cellsPn_drop : ∀ (L : List Pn) (i : Nat), cellsPn (L.drop i) = (cellsPn L).drop (i * 2)
  | [], i => by simp [cellsPn]
  | x :: L, 0 => by simp
  | x :: L, i + 1 => by
    rw [List.drop_succ_cons, cellsPn_drop L i, cellsPn, show (i + 1) * 2 = 2 + i * 2 by omega, Pn.cs]
    simp [Nat.add_comm 2]
/-- Insertion at the end. -/
theorem insPn_end (L : List Pn) (x : Pn) (B vb : Nat) (v : Value) (w : World) (ho : OwnPn B L v w) (hu : OwnPn 0 [x] (.slice (some ⟨vb, 0, none⟩) 1 1) w) (hB : B ≤ w.heap.size) (hL : L.length ≤ 1000000) :
    Calls Try.prog 21 #[v, .int .i64 (L.length : Int), .slice (some ⟨vb, 0, none⟩) 1 1] w fun e w' => ∃ v', e = .returned v' ∧ OwnPn B (L ++ [x]) v' w' ∧ Below B w w' := by
  obtain ⟨a, cap, rfl⟩ := ho.rd.shape
  have HO := Lib.hid ho
  have HS := Lib.hid hu.rd.src
  have hc : L.length ≤ cap ∧ cap ≤ 9223372036854775807 := by
    obtain ⟨_, a', c', he, h1, h2, _⟩ := ho.rd
    simp only [Value.slice.injEq] at he
    obtain ⟨-, -, rfl⟩ := he
    unfold maxLen at h2
    omega
  have hc1 := hc.1
  have hc2 := hc.2
  have hca : a = none → cap = 0 := fun ha => by
    subst ha
    rcases ho.2.2 with ⟨h, _⟩ | ⟨g, c, cur, h, _⟩
    · simp only [Value.slice.injEq] at h; exact h.2.2
    · cases h
  have hca2 : ∀ ad, a = some ad → ad.spot = none ∧ ad.off = 0 := fun ad ha => by
    subst ha
    rcases ho.2.2 with ⟨h, _⟩ | ⟨g, c, cur, h, _⟩
    · cases h
    · simp only [Value.slice.injEq, Option.some.injEq] at h; rw [h.1]; exact ⟨rfl, rfl⟩
  clear ho hu hc
  cases a with
  | none =>
    obtain rfl := hca rfl
    clear hca hca2
    go_enter Try.func21, Try.ntmps21
    go_wp2_with (at_builtin; refine wp_appPn rfl _ _ _ rfl B L [x] _ _ rfl rfl HO.out HS.out hB (by simp; omega) ?_; intro v' w' ho hb; have HO' := Lib.hid ho; have HB' := Lib.hid hb; clear ho hb)
    all_goals (go_ret; exact ⟨_, rfl, HO'.out, HB'.out⟩)
  | some ad =>
    obtain ⟨hs, h0⟩ := hca2 _ rfl
    obtain ⟨g, o, sp⟩ := ad
    simp only at hs h0
    subst hs h0
    clear hca hca2
    go_enter Try.func21, Try.ntmps21
    go_wp2_with (at_builtin; refine wp_appPn rfl _ _ _ rfl B L [x] _ _ rfl rfl HO.out HS.out hB (by simp; omega) ?_; intro v' w' ho hb; have HO' := Lib.hid ho; have HB' := Lib.hid hb; clear ho hb)
    all_goals (go_ret; exact ⟨_, rfl, HO'.out, HB'.out⟩)
end Go.Proofs.Ytledpfdflcmlcaa
