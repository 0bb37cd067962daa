/- Merging is commutative, and merging with an empty summary changes nothing. No program. -/
import Derived.Test.YtmmdnomfpfcjiaaFqV
namespace Go.Proofs.Ytmmdnomfpfcjiaa
open Go.RowKit
set_option linter.unusedVariables false
set_option linter.unusedSimpArgs false
theorem unL_comm : ∀ (L M : List Ent), unL L M = unL M L ∧ unF L M = unF M L
  | [], M => by rw [unL_nil_left, unL_nil_right, unF_nil_left, unF_nil_right]; exact ⟨rfl, rfl⟩
  | x :: L, [] => by rw [unL_nil_left, unL_nil_right, unF_nil_left, unF_nil_right]; exact ⟨rfl, rfl⟩
  | x :: L, y :: M => by
    rw [unL_cons, unL_cons, unF_cons, unF_cons]
    rcases lessK_tri x.k y.k with h1 | h1 | h1
    · have h2 := lessK_asym h1
      simp only [h1, h2, if_true, Bool.false_eq_true, if_false]
      exact ⟨by rw [(unL_comm L (y :: M)).1], (unL_comm L (y :: M)).2⟩
    · have h2 := lessK_irr y.k
      rw [h1]
      simp only [h2, Bool.false_eq_true, if_false]
      refine ⟨?_, by rw [(unL_comm L M).2, tF_comm x.c y.c]⟩
      rw [(unL_comm L M).1]
      unfold addE
      rw [h1, tS_comm x.c y.c]
    · have h2 := lessK_asym h1
      simp only [h1, h2, if_true, Bool.false_eq_true, if_false]
      exact ⟨by rw [(unL_comm (x :: L) M).1], (unL_comm (x :: L) M).2⟩
termination_by L M => L.length + M.length
theorem sumQ_comm {a b : FQ} (h : a.S = b.S) : sumQ a b = sumQ b a := by
  unfold sumQ
  rw [(unL_comm a.L b.L).1, (unL_comm a.L b.L).2, tS_comm a.T b.T, tS_comm a.K b.K, tF_comm a.T b.T, tF_comm a.K b.K, h]
  congr 1
  cases a.s <;> cases b.s <;> rfl
theorem sumQ_new {a : FQ} (h : ValQ a.S a.T a.K a.L) : sumQ a ⟨a.S, 0, 0, [], false⟩ = a := by
  obtain ⟨S, T, K, L, s⟩ := a
  unfold sumQ
  dsimp only at h ⊢
  rw [unL_nil_right, unF_nil_right, srpl_zero h.len, lowL_zero h.ok1, (tS_zero h.t0 h.t1).1, (tS_zero h.k0 h.k1).1, (tS_zero h.k0 h.k1).1, (tS_zero h.t0 h.t1).2, (tS_zero h.k0 h.k1).2]
  simp
theorem merQ_of {a b : FQ} (ha : ValQ a.S a.T a.K a.L) (hb : ValQ b.S b.T b.K b.L) (h : a.S = b.S) : merQE a b = 0 ∧ merQ a b = sumQ a b := by
  have e : merQE a b = 0 := by
    unfold merQE
    rw [valQ_of ha, if_neg (by decide), valQ_of hb, if_neg (by decide), if_neg (by simpa using h)]
  refine ⟨e, ?_⟩
  unfold merQ
  rw [e, if_neg (by decide)]
theorem ValQ.sum' {a b : FQ} (ha : ValQ a.S a.T a.K a.L) (hb : ValQ b.S b.T b.K b.L) (h : a.S = b.S) : ValQ (sumQ a b).S (sumQ a b).T (sumQ a b).K (sumQ a b).L := by
  obtain ⟨S, T, K, L, s⟩ := a
  obtain ⟨S', T', K', M, s'⟩ := b
  dsimp only at ha hb h
  subst h
  exact ha.sum hb
theorem insQ_val {c : FQ} (h : ValQ c.S c.T c.K c.L) {k : ByteArray} {x : Int} (hi : itemE (byt k) x = 0) : insQE c k x = 0 ∧ insQ c k x = sumQ c (oneQ c.S k x) ∧ ValQ (insQ c k x).S (insQ c k x).T (insQ c k x).K (insQ c k x).L ∧ (insQ c k x).S = c.S := by
  have e : insQE c k x = 0 := by
    unfold insQE
    rw [valQ_of h, if_neg (by decide), hi]
  have e2 : insQ c k x = sumQ c (oneQ c.S k x) := by
    unfold insQ
    rw [e, if_neg (by decide)]
  refine ⟨e, e2, ?_, by rw [e2]; rfl⟩
  rw [e2]
  exact h.sum' (b := oneQ c.S k x) (ValQ.one h.s0 h.s1 hi) rfl
theorem newQ_val {S : Int} (h0 : 1 ≤ S) (h1 : S ≤ 32) : newQ S = ⟨S, 0, 0, [], false⟩ ∧ newQE S = 0 ∧ ValQ S 0 0 [] := by
  refine ⟨by unfold newQ; rw [if_neg (by omega)], by unfold newQE; rw [if_neg (by omega)], ?_⟩
  exact ValQ.mk' h0 h1 (by decide) (by decide) (by decide) (by decide) (by simp; omega) (fun z hz => by cases hz) List.Pairwise.nil
end Go.Proofs.Ytmmdnomfpfcjiaa
