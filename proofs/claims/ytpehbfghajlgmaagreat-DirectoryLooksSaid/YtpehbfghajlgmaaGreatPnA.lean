/- The reference's AddPin. -/
import Derived.Test.YtpehbfghajlgmaaGreatPnX
namespace Go.Proofs.YtpehbfghajlgmaaGreat
open Go.RowKit
set_option linter.unusedVariables false
set_option linter.unusedSimpArgs false
theorem addP_skip (c : Int) : ∀ (A R : List Pn), (∀ x ∈ A, x.m < c) → addP c (A ++ R) = A ++ addP c R
  | [], R, _ => rfl
  | p :: A, R, h => by
    have h1 := h p (List.mem_cons_self ..)
    simp only [List.cons_append, addP]
    rw [if_neg (by omega), if_neg (by omega), addP_skip c A R (fun x hx => h x (List.mem_cons_of_mem _ hx))]
theorem addP_len (c : Int) : ∀ L : List Pn, (addP c L).length ≤ L.length + 1
  | [] => Nat.le_refl _
  | p :: L => by
    have := addP_len c L
    unfold addP
    split
    · simp
    · split <;> simp <;> omega
theorem pn_drop {L : List Pn} {j : Nat} (h : j < L.length) : L.drop j = L.getD j Pn.z :: L.drop (j + 1) := by
  rw [List.drop_eq_getElem_cons h]
  simp [List.getD, h]
theorem At2Pn.keep {x : Pn} {b o : Nat} {w w' : World} (h : At2Pn x b o w) (hb : w'.heap[b]? = w.heap[b]?) : At2Pn x b o w' :=
  ⟨(World.cell?_of_block (w := w) (a := ⟨b, o, none⟩) hb).trans h.1, (World.cell?_of_block (w := w) (a := ⟨b, o + 1, none⟩) hb).trans h.2⟩
theorem At2Pn.new (x : Pn) (w : World) : At2Pn x w.heap.size 0 (w.alloc (.cells #[.int .i64 x.m, .int .i64 x.n] 34)) := ⟨by go_simp, by go_simp⟩
section
variable {w : World}
/-- append, onto pins of the call's own: just its own row turns. -/
theorem wp_appPnL {ops : Array Oper} {rest : List Oper} {o : Oper} {a : Act} {Q : Exit → Act → World → Prop} (hgd : o.guard = none) (s x : Operand) (tx : TypeId)
    (ho : o.op = .call { callee := .builtin .append, args := #[s, x], argTypes := #[24, tx] }) (B : Nat) (L M : List Pn) (v u : Value) (hs : a.eval s = v) (hx : a.eval x = u)
    (hown : OwnPn B L v w) (hsrc : FromPn M tx u w) (hB : B ≤ w.heap.size) (hn : L.length + M.length ≤ 1099511627776)
    (h : ∀ v' w', OwnPn B (L ++ M) v' w' → Below B w w' → (∀ g, g < w.heap.size → v.ownBlock ≠ some g → w'.heap[g]? = w.heap[g]?) → wpList Tryz.prog ops Q rest (a.put o.dst v') w') : wpList Tryz.prog ops Q (o :: rest) a w := by
  obtain ⟨i0, hi, hz0, hz1, hz2⟩ := info_parts info_pn
  refine wpList_own_src w hgd s x 24 tx ho B 34 i0 (.agg #[.int .i64 0, .int .i64 0]) 2 16 Tryz.underlying24 hi hz0 hz1 hz2 rfl (by decide) v L.length (cellsPn L) hs hown.2 u M.length (cellsPn M) hx hsrc.2 (by unfold maxLen; omega) (by omega) hB ?_
  intro v' w' h1 h2
  refine h v' w' ⟨hown.1.app hsrc.1, ?_⟩ ((Below.refl _ _).grown h2 hB (fun k hk => (World.ownsRow.lt hown.2 k hk).1)) (fun g hg hne => h2.block g hg (Ne.symm hne))
  rw [List.length_append, cellsPn_app]
  exact h1
end
/-- What has been put down of the first q pins. -/
def AdS (B q : Nat) (L : List Pn) (c : Int) (d : Bool) (M : List Pn) (w wr : World) (o : Value) : Prop :=
  OwnPn B M o wr ∧ Below w.heap.size w wr ∧ M.length ≤ q + 1 ∧ (d = false → M = L.take q ∧ ∀ x ∈ M, x.m < c) ∧ (d = true → M ++ L.drop q = addP c L)
theorem ads_end {B : Nat} {L : List Pn} {c : Int} {d : Bool} {M : List Pn} {w wr : World} {o : Value} (h : AdS B L.length L c d M w wr o) : if d then M = addP c L else M ++ [⟨c, 1⟩] = addP c L := by
  obtain ⟨-, -, -, h1, h2⟩ := h
  cases d
  · obtain ⟨e, hx⟩ := h1 rfl
    rw [List.take_length] at e
    subst e
    have := addP_skip c M [] hx
    rw [List.append_nil] at this
    simp only [Bool.false_eq_true, if_false]
    rw [this]
    rfl
  · have := h2 rfl
    rw [List.drop_length, List.append_nil] at this
    simpa using this
end Go.Proofs.YtpehbfghajlgmaaGreat
