/- One contract each for the reference's Bind, Unbind, Rename. -/
import Derived.Test.YtpehbfghajlgmaaGreatBgB
import Derived.Test.YtpehbfghajlgmaaGreatBgU
namespace Go.Proofs.YtpehbfghajlgmaaGreat
open Go.RowKit
set_option linter.unusedVariables false
set_option linter.unusedSimpArgs false
theorem PlcAt.uniq {L : List Bg} {x : Bg} {q p : Nat} (h : PlcAt L x q) (k : PlcAt L x p) : q = p := by
  rcases Nat.lt_trichotomy q p with h' | h' | h'
  · have h1 := h.2.1 (p - 1) (by omega) (by have := k.1; omega)
    rw [k.2.2 (by omega)] at h1
    cases h1
  · exact h'
  · have h1 := k.2.1 (q - 1) (by omega) (by have := h.1; omega)
    rw [h.2.2 (by omega)] at h1
    cases h1
/-- R is L with x in its place. -/
def PutB (L : List Bg) (x : Bg) (R : List Bg) : Prop := ∃ q, PlcAt L x q ∧ R = L.take q ++ x :: L.drop q
theorem PutB.uniq {L R S : List Bg} {x : Bg} (h : PutB L x R) (k : PutB L x S) : R = S := by
  obtain ⟨q, h1, rfl⟩ := h
  obtain ⟨p, k1, rfl⟩ := k
  rw [h1.uniq k1]
/-- A directory that C holds of and the error z are answered; with an error, none. -/
def OutB (z : Int) (C : List Bg → Prop) (w : World) (e : Ending) (w' : World) : Prop := ∃ v R, e = .returned (.tuple #[v, .int .i64 z]) ∧ OwnBg w.heap.size R v w' ∧ (z = 0 → C R) ∧ (z ≠ 0 → R = []) ∧ Below w.heap.size w w'
theorem OutB.bad {z : Int} {C : List Bg → Prop} {w w' : World} {e : Ending} (hz : z ≠ 0) (h : e = .returned (.tuple #[.slice none 0 0, .int .i64 z]) ∧ Below w.heap.size w w') : OutB z C w e w' :=
  ⟨_, [], h.1, OwnBg.empty _ _, fun h' => absurd h' hz, fun _ => rfl, h.2⟩
theorem rbind_any (L : List Bg) (u : Value) (nm : ByteArray) (ob c : Int) (w : World) (hv : RdBg L u w) (hL : L.length ≤ 1000000) (hn : nm.size ≤ maxLen) (ho : ob ≤ 9223372036854775807) (hc : c ≤ 9223372036854775807) :
    Calls Tryz.prog 12 #[u, .string nm, .int .i64 ob, .int .i64 c] w fun e w' => OutB (bndE L nm ob c) (PutB L ⟨nm, ob, c, 0⟩) w e w' := by
  by_cases hz : valB L = 0
  · cases h1 : nameB (byt nm) with
    | false =>
      have e : bndE L nm ob c = 6 := by unfold bndE; rw [if_neg (fun h => h hz), if_pos h1]
      rw [e]
      exact (rbind_name L u nm ob c w hv hL hz hn h1).mono fun e w' h => OutB.bad (by decide) h
    | true =>
      have h1' : ¬ nameB (byt nm) = false := by rw [h1]; decide
      by_cases h2 : ob < 1 ∨ c < 1
      · have e : bndE L nm ob c = 5 := by unfold bndE; rw [if_neg (fun h => h hz), if_neg h1', if_pos h2]
        rw [e]
        exact (rbind_rng L u nm ob c w hv hL hz hn h1 h2).mono fun e w' h => OutB.bad (by decide) h
      · have g1 : ¬ ob < 1 := fun h => h2 (.inl h)
        have g2 : ¬ c < 1 := fun h => h2 (.inr h)
        cases h3 : lateB L c with
        | true =>
          have e : bndE L nm ob c = 19 := by unfold bndE; rw [if_neg (fun h => h hz), if_neg h1', if_neg h2, if_pos h3]
          rw [e]
          exact (rbind_late L u nm ob c w hv hL hz hn h1 g1 g2 h3).mono fun e w' h => OutB.bad (by decide) h
        | false =>
          have h3' : ¬ lateB L c = true := by rw [h3]; decide
          cases h4 : busyB L nm ob with
          | true =>
            have e : bndE L nm ob c = 9 := by unfold bndE; rw [if_neg (fun h => h hz), if_neg h1', if_neg h2, if_neg h3', if_pos h4]
            rw [e]
            exact (rbind_dup L u nm ob c w hv hL hz hn h1 g1 g2 h3 h4).mono fun e w' h => OutB.bad (by decide) h
          | false =>
            have h4' : ¬ busyB L nm ob = true := by rw [h4]; decide
            have e : bndE L nm ob c = 0 := by unfold bndE; rw [if_neg (fun h => h hz), if_neg h1', if_neg h2, if_neg h3', if_neg h4']
            rw [e]
            exact (rbind_ok L u nm ob c w hv hL hz hn h1 g1 g2 ho hc h3 h4).mono fun e w' ⟨v, q, he, hw, hp, hb⟩ => ⟨v, _, he, hw, fun _ => ⟨q, hp, rfl⟩, fun h => absurd rfl h, hb⟩
  · have e : bndE L nm ob c = valB L := by unfold bndE; rw [if_pos hz]
    rw [e]
    exact (rbind_bad L u nm ob c w hv hL _ rfl hz).mono fun e w' h => OutB.bad hz h
open Classical in
/-- The error of Unbind. -/
noncomputable def unbE (L : List Bg) (nm : ByteArray) (c : Int) : Int := if valB L ≠ 0 then valB L else if nameB (byt nm) = false then 6 else if c < 1 then 5 else if lateB L c = true then 19 else match opnB L nm with | none => 8 | some i => if c ≤ (L.getD i Bg.z).k then 19 else 0
/-- L with the open binding of nm ended at c. -/
def EndB (L : List Bg) (nm : ByteArray) (c : Int) (R : List Bg) : Prop := ∃ i, opnB L nm = some i ∧ R = L.set i ⟨(L.getD i Bg.z).n, (L.getD i Bg.z).r, (L.getD i Bg.z).k, c⟩
theorem EndB.uniq {L R S : List Bg} {nm : ByteArray} {c : Int} (h : EndB L nm c R) (k : EndB L nm c S) : R = S := by
  obtain ⟨q, h1, rfl⟩ := h
  obtain ⟨p, k1, rfl⟩ := k
  rw [h1] at k1
  cases k1
  rfl
theorem opn_lt {L : List Bg} {nm : ByteArray} {i : Nat} (h : opnB L nm = some i) : i < L.length := (List.findIdx?_eq_some_iff_getElem.1 h).1
theorem runb_any (L : List Bg) (u : Value) (nm : ByteArray) (c : Int) (w : World) (hv : RdBg L u w) (hL : L.length ≤ 1000000) (hn : nm.size ≤ maxLen) (hc : c ≤ 9223372036854775807) :
    Calls Tryz.prog 13 #[u, .string nm, .int .i64 c] w fun e w' => OutB (unbE L nm c) (EndB L nm c) w e w' := by
  by_cases hz : valB L = 0
  · cases h1 : nameB (byt nm) with
    | false =>
      have e : unbE L nm c = 6 := by unfold unbE; rw [if_neg (fun h => h hz), if_pos h1]
      rw [e]
      exact (runb_name L u nm c w hv hL hz hn h1).mono fun e w' h => OutB.bad (by decide) h
    | true =>
      have h1' : ¬ nameB (byt nm) = false := by rw [h1]; decide
      by_cases g2 : c < 1
      · have e : unbE L nm c = 5 := by unfold unbE; rw [if_neg (fun h => h hz), if_neg h1', if_pos g2]
        rw [e]
        exact (runb_rng L u nm c w hv hL hz hn h1 g2).mono fun e w' h => OutB.bad (by decide) h
      · cases h3 : lateB L c with
        | true =>
          have e : unbE L nm c = 19 := by unfold unbE; rw [if_neg (fun h => h hz), if_neg h1', if_neg g2, if_pos h3]
          rw [e]
          exact (runb_late L u nm c w hv hL hz hn h1 g2 h3).mono fun e w' h => OutB.bad (by decide) h
        | false =>
          have h3' : ¬ lateB L c = true := by rw [h3]; decide
          cases h4 : opnB L nm with
          | none =>
            have e : unbE L nm c = 8 := by unfold unbE; rw [if_neg (fun h => h hz), if_neg h1', if_neg g2, if_neg h3', h4]
            rw [e]
            exact (runb_unk L u nm c w hv hL hz hn h1 g2 h3 h4).mono fun e w' h => OutB.bad (by decide) h
          | some i =>
            have hi := opn_lt h4
            by_cases h6 : c ≤ (L.getD i Bg.z).k
            · have e : unbE L nm c = 19 := by unfold unbE; rw [if_neg (fun h => h hz), if_neg h1', if_neg g2, if_neg h3', h4]; exact if_pos h6
              rw [e]
              exact (runb_ord L u nm c w hv hL hz hn h1 g2 h3 i h4 hi h6).mono fun e w' h => OutB.bad (by decide) h
            · have e : unbE L nm c = 0 := by unfold unbE; rw [if_neg (fun h => h hz), if_neg h1', if_neg g2, if_neg h3', h4]; exact if_neg h6
              rw [e]
              exact (runb_ok L u nm c w hv hL hz hn h1 g2 h3 i h4 hi h6 hc).mono fun e w' ⟨v, he, hw, hb⟩ => ⟨v, _, he, hw, fun _ => ⟨i, h4, rfl⟩, fun h => absurd rfl h, hb⟩
  · have e : unbE L nm c = valB L := by unfold unbE; rw [if_pos hz]
    rw [e]
    exact (runb_bad L u nm c w hv hL _ rfl hz).mono fun e w' h => OutB.bad hz h
open Classical in
/-- The error of Rename. -/
noncomputable def renE (L : List Bg) (nm tn : ByteArray) (c : Int) : Int := if valB L ≠ 0 then valB L else if nameB (byt nm) = false then 6 else if nameB (byt tn) = false then 6 else if c < 1 then 5 else if lateB L c = true then 19 else match opnB L nm with | none => 8 | some i => if (opnB L tn).isSome = true then 9 else if c ≤ (L.getD i Bg.z).k then 19 else 0
/-- L with the open binding of nm ended at c and its object bound to tn from then on. -/
def MovB (L : List Bg) (nm tn : ByteArray) (c : Int) (R : List Bg) : Prop := ∃ i, opnB L nm = some i ∧ PutB (L.set i ⟨(L.getD i Bg.z).n, (L.getD i Bg.z).r, (L.getD i Bg.z).k, c⟩) ⟨tn, (L.getD i Bg.z).r, c, 0⟩ R
theorem MovB.uniq {L R S : List Bg} {nm tn : ByteArray} {c : Int} (h : MovB L nm tn c R) (k : MovB L nm tn c S) : R = S := by
  obtain ⟨q, h1, h2⟩ := h
  obtain ⟨p, k1, k2⟩ := k
  rw [h1] at k1
  cases k1
  exact h2.uniq k2
theorem rren_any (L : List Bg) (u : Value) (nm tn : ByteArray) (c : Int) (w : World) (hv : RdBg L u w) (hL : L.length ≤ 1000000) (hn : nm.size ≤ maxLen) (ht : tn.size ≤ maxLen) (hc : c ≤ 9223372036854775807) :
    Calls Tryz.prog 14 #[u, .string nm, .string tn, .int .i64 c] w fun e w' => OutB (renE L nm tn c) (MovB L nm tn c) w e w' := by
  by_cases hz : valB L = 0
  · cases h1 : nameB (byt nm) with
    | false =>
      have e : renE L nm tn c = 6 := by unfold renE; rw [if_neg (fun h => h hz), if_pos h1]
      rw [e]
      exact (rren_name L u nm tn c w hv hL hz hn ht h1).mono fun e w' h => OutB.bad (by decide) h
    | true =>
      have h1' : ¬ nameB (byt nm) = false := by rw [h1]; decide
      cases h2 : nameB (byt tn) with
      | false =>
        have e : renE L nm tn c = 6 := by unfold renE; rw [if_neg (fun h => h hz), if_neg h1', if_pos h2]
        rw [e]
        exact (rren_name2 L u nm tn c w hv hL hz hn ht h1 h2).mono fun e w' h => OutB.bad (by decide) h
      | true =>
        have h2' : ¬ nameB (byt tn) = false := by rw [h2]; decide
        by_cases g2 : c < 1
        · have e : renE L nm tn c = 5 := by unfold renE; rw [if_neg (fun h => h hz), if_neg h1', if_neg h2', if_pos g2]
          rw [e]
          exact (rren_rng L u nm tn c w hv hL hz hn ht h1 h2 g2).mono fun e w' h => OutB.bad (by decide) h
        · cases h3 : lateB L c with
          | true =>
            have e : renE L nm tn c = 19 := by unfold renE; rw [if_neg (fun h => h hz), if_neg h1', if_neg h2', if_neg g2, if_pos h3]
            rw [e]
            exact (rren_late L u nm tn c w hv hL hz hn ht h1 h2 g2 h3).mono fun e w' h => OutB.bad (by decide) h
          | false =>
            have h3' : ¬ lateB L c = true := by rw [h3]; decide
            cases h4 : opnB L nm with
            | none =>
              have e : renE L nm tn c = 8 := by unfold renE; rw [if_neg (fun h => h hz), if_neg h1', if_neg h2', if_neg g2, if_neg h3', h4]
              rw [e]
              exact (rren_unk L u nm tn c w hv hL hz hn ht h1 h2 g2 h3 h4).mono fun e w' h => OutB.bad (by decide) h
            | some i =>
              have hi := opn_lt h4
              cases h5 : opnB L tn with
              | some j =>
                have e : renE L nm tn c = 9 := by unfold renE; rw [if_neg (fun h => h hz), if_neg h1', if_neg h2', if_neg g2, if_neg h3', h4, h5]; rfl
                rw [e]
                exact (rren_dup L u nm tn c w hv hL hz hn ht h1 h2 g2 h3 i h4 hi j h5).mono fun e w' h => OutB.bad (by decide) h
              | none =>
                by_cases h6 : c ≤ (L.getD i Bg.z).k
                · have e : renE L nm tn c = 19 := by unfold renE; rw [if_neg (fun h => h hz), if_neg h1', if_neg h2', if_neg g2, if_neg h3', h4, h5]; exact if_pos h6
                  rw [e]
                  exact (rren_ord L u nm tn c w hv hL hz hn ht h1 h2 g2 h3 i h4 hi h5 h6).mono fun e w' h => OutB.bad (by decide) h
                · have e : renE L nm tn c = 0 := by unfold renE; rw [if_neg (fun h => h hz), if_neg h1', if_neg h2', if_neg g2, if_neg h3', h4, h5]; exact if_neg h6
                  rw [e]
                  exact (rren_ok L u nm tn c w hv hL hz hn ht h1 h2 g2 h3 i h4 hi h5 h6 hc).mono fun e w' ⟨v, q, he, hw, hp, hb⟩ => ⟨v, _, he, hw, fun _ => ⟨i, h4, q, hp, rfl⟩, fun h => absurd rfl h, hb⟩
  · have e : renE L nm tn c = valB L := by unfold renE; rw [if_pos hz]
    rw [e]
    exact (rren_bad L u nm tn c w hv hL _ rfl hz).mono fun e w' h => OutB.bad hz h
end Go.Proofs.YtpehbfghajlgmaaGreat
