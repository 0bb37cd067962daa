/- The reference's reader as one word on memory: numbers, words, the end. -/
import Derived.Test.YtgnopnifdiipkaaDoorReader
namespace Go.Proofs.YtgnopnifdiipkaaDoor
open Go.RowKit
set_option linter.unusedVariables false
set_option linter.unusedSimpArgs false
/-- A reader in memory: its bytes, how far it is, whether something was wrong. -/
def RSt (g : Nat) (v : Value) (k : Nat) (b : Bool) (w : World) : Prop :=
  (w.cell? ⟨g, 0, none⟩ = some v ∧ w.cell? ⟨g, 1, none⟩ = some (.int .i64 (k : Int)) ∧ w.cell? ⟨g, 2, none⟩ = some (.bool b)) ∧
    w.frozen? ⟨g, 0, none⟩ = false ∧ w.frozen? ⟨g, 1, none⟩ = false ∧ w.frozen? ⟨g, 2, none⟩ = false
theorem RSt.number (g : Nat) (L : List Int) (v : Value) (k : Nat) (M : Int) (w : World) (h : Rd L v w) (hk : k ≤ L.length) (M0 : -9223372036854775808 ≤ M) (M1 : M ≤ 9223372036854775807) (hs : RSt g v k false w) (hg : numG (L.drop k) M = true) :
    Calls Tryd.prog 56 #[.pointer (some ⟨g, 0, none⟩), .int .i64 M] w fun e w' =>
      e = .returned (.int .i64 (decU (L.drop k)).1) ∧ RSt g v (k + (decU (L.drop k)).2.1.toNat) false w' ∧ Below g w w' := by
  obtain ⟨⟨c0, c1, c2⟩, f0, f1, f2⟩ := hs
  refine (number_good g L v k M w h hk M0 M1 c0 c1 c2 f1 hg).mono ?_
  rintro e w' ⟨rfl, m, rfl⟩
  have hb := (decU_bd (h.tl k hk).1).2.2.1
  have e1 : (k : Int) + (decU (L.drop k)).2.1 = ((k + (decU (L.drop k)).2.1.toNat : Nat) : Int) := by omega
  rw [e1]
  refine ⟨rfl, ⟨⟨by go_simp, by go_simp, by go_simp⟩, by go_simp, by go_simp, by go_simp⟩, ?_⟩
  exact below_drewN ((Below.refl g w).setCell (p := ⟨g, 1, none⟩) (Nat.le_refl _) _) _
theorem RSt.wrong (g : Nat) (L : List Int) (v : Value) (k : Nat) (b : Bool) (M : Int) (w : World) (h : Rd L v w) (hk : k ≤ L.length) (M0 : -9223372036854775808 ≤ M) (M1 : M ≤ 9223372036854775807) (hs : RSt g v k b w) (hg : b = true ∨ numG (L.drop k) M = false) :
    Calls Tryd.prog 56 #[.pointer (some ⟨g, 0, none⟩), .int .i64 M] w fun e w' =>
      e = .returned (.int .i64 0) ∧ RSt g v k true w' ∧ Below g w w' := by
  obtain ⟨⟨c0, c1, c2⟩, f0, f1, f2⟩ := hs
  refine (number_bad g L v k b M w h hk M0 M1 c0 c1 c2 f2 hg).mono ?_
  rintro e w' ⟨rfl, m, rfl⟩
  refine ⟨rfl, ⟨⟨by go_simp, by go_simp, by go_simp⟩, by go_simp, by go_simp, by go_simp⟩, ?_⟩
  exact below_drewN ((Below.refl g w).setCell (p := ⟨g, 2, none⟩) (Nat.le_refl _) _) _
theorem RSt.done (g : Nat) (L : List Int) (v : Value) (k : Nat) (b : Bool) (w : World) (h : Rd L v w) (hs : RSt g v k b w) :
    Calls Tryd.prog 58 #[.pointer (some ⟨g, 0, none⟩)] w fun e w' => e = .returned (.bool (!b && decide (k = L.length))) ∧ ∃ m, w' = w.drewN m := by
  obtain ⟨⟨c0, c1, c2⟩, f0, f1, f2⟩ := hs
  have := done_any g L v k b w h c0 c1 c2
  have e : decide ((k : Int) = (L.length : Int)) = decide (k = L.length) := by
    rw [Bool.eq_iff_iff]; simp only [decide_eq_true_eq]; omega
  rw [e] at this
  exact this
theorem numG_no {L : List Int} {M : Int} (h : numG L M = false) : (decU L).2.2 ≠ 0 ∨ M < (decU L).1 := by
  unfold numG at h
  by_cases he : (decU L).2.2 = 0
  · rw [he] at h
    exact .inr (by simpa using h)
  · exact .inl he
theorem numG_yes {L : List Int} {M : Int} (h : numG L M = true) : (decU L).2.2 = 0 ∧ (decU L).1 ≤ M := by
  unfold numG at h
  rw [Bool.and_eq_true, beq_iff_eq, decide_eq_true_eq] at h
  exact h
theorem rst_keep {g : Nat} {v : Value} {k : Nat} {b : Bool} {w w' : World} (h : RSt g v k b w) (hb : Below w.heap.size w w') (hg : g < w.heap.size) : RSt g v k b w' := by
  obtain ⟨⟨h0, h1, h2⟩, h3, h4, h5⟩ := h
  obtain ⟨hc, hf⟩ := bcell hb
  exact ⟨⟨(hc _ _ hg).trans h0, (hc _ _ hg).trans h1, (hc _ _ hg).trans h2⟩, (hf _ _ hg).trans h3, (hf _ _ hg).trans h4, (hf _ _ hg).trans h5⟩
/-- What is wrong reads as 0. -/
theorem decU_zero {L : List Int} (h : (decU L).2.2 ≠ 0) : (decU L).1 = 0 := by
  unfold decU at h ⊢
  split
  · rfl
  · rw [if_neg (by assumption)] at h
    split
    · rw [if_pos (by assumption)] at h
      exact absurd rfl h
    · rw [if_neg (by assumption)] at h
      split
      · rfl
      · rw [if_neg (by assumption)] at h
        split
        · rfl
        · rw [if_neg (by assumption)] at h
          exact absurd rfl h
theorem decW_bd {L : List Int} (hy : Byt L) : 0 ≤ (decW L).1 ∧ (decW L).1 ≤ 18446744073709551615 ∧ 0 ≤ (decW L).2.1 ∧ (decW L).2.1 ≤ L.length ∧ (decW L).2.1 ≤ 8 := by
  unfold decW
  split
  · simp
  · have := val_bd (L.take 8) (hy.take 8)
    have e : (L.take 8).length = 8 := by simp; omega
    rw [e] at this
    have e2 : ((256 ^ 8 : Nat) : Int) = 18446744073709551616 := by decide
    rw [e2] at this
    dsimp only
    omega
set_option maxRecDepth 100000 in
set_option maxHeartbeats 2000000 in
theorem word_good (g : Nat) (L : List Int) (v : Value) (k : Nat) (w : World) (h : Rd L v w) (hk : k ≤ L.length)
    (c0 : w.cell? ⟨g, 0, none⟩ = some v) (c1 : w.cell? ⟨g, 1, none⟩ = some (.int .i64 (k : Int))) (c2 : w.cell? ⟨g, 2, none⟩ = some (.bool false)) (f1 : w.frozen? ⟨g, 1, none⟩ = false) (hg : (decW (L.drop k)).2.2 = 0) :
    Calls Tryd.prog 57 #[.pointer (some ⟨g, 0, none⟩)] w fun e w' =>
      e = .returned (.int .u64 (decW (L.drop k)).1) ∧ ∃ m, w' = (w.setCell ⟨g, 1, none⟩ (.int .i64 ((k : Int) + (decW (L.drop k)).2.1))).drewN m := by
  have hr := fun w => tlV_run h k hk w
  have ht := h.tl k hk
  have hd := fun n => rdecWord_any (L.drop k) (tlV v k) (w.drewN n) ht
  obtain ⟨b0, b1, b2, b3, b4⟩ := decW_bd ht.1
  have hl : (k : Int) + (decW (L.drop k)).2.1 ≤ 9223372036854775807 := by
    obtain ⟨_, _, _, _, h1, h2, _⟩ := h
    unfold maxLen at h2
    rw [List.length_drop] at b3
    omega
  generalize tlV v k = u at *
  generalize (decW (L.drop k)).1 = n at *
  generalize (decW (L.drop k)).2.1 = j at *
  generalize (decW (L.drop k)).2.2 = e at *
  subst hg
  clear h ht b3
  go_enter Tryd.func57, Tryd.ntmps57
  go_wp2
  go_quiet ((go_at_call 70; exact quiet_left (hd _)))
  go_wp2
  go_ret
  exact ⟨rfl, _, rfl⟩
set_option maxRecDepth 100000 in
set_option maxHeartbeats 2000000 in
theorem word_bad (g : Nat) (L : List Int) (v : Value) (k : Nat) (b : Bool) (w : World) (h : Rd L v w) (hk : k ≤ L.length)
    (c0 : w.cell? ⟨g, 0, none⟩ = some v) (c1 : w.cell? ⟨g, 1, none⟩ = some (.int .i64 (k : Int))) (c2 : w.cell? ⟨g, 2, none⟩ = some (.bool b)) (f2 : w.frozen? ⟨g, 2, none⟩ = false) (hg : b = true ∨ (decW (L.drop k)).2.2 ≠ 0) :
    Calls Tryd.prog 57 #[.pointer (some ⟨g, 0, none⟩)] w fun e w' =>
      e = .returned (.int .u64 0) ∧ ∃ m, w' = (w.setCell ⟨g, 2, none⟩ (.bool true)).drewN m := by
  have hr := fun w => tlV_run h k hk w
  have ht := h.tl k hk
  have hd := fun n => rdecWord_any (L.drop k) (tlV v k) (w.drewN n) ht
  generalize tlV v k = u at *
  generalize (decW (L.drop k)).1 = n at *
  generalize (decW (L.drop k)).2.1 = j at *
  generalize (decW (L.drop k)).2.2 = e at *
  have hll : (L.length : Int) ≤ 9223372036854775807 := by
    obtain ⟨_, _, _, _, h1, h2, _⟩ := h
    unfold maxLen at h2
    omega
  clear h ht
  by_cases hb : b = true
  · subst hb
    clear hg
    go_enter Tryd.func57, Tryd.ntmps57
    go_wp2
    go_quiet ((go_at_call 70; exact quiet_left (hd _)))
    go_wp2
    go_ret
    exact ⟨rfl, _, rfl⟩
  · have hb' : b = false := by simpa using hb
    subst hb'
    have he : e ≠ 0 := by
      rcases hg with h | h
      · cases h
      · exact h
    have he' : (e != 0) = true := by simp [he]
    clear hb hg he
    go_enter Tryd.func57, Tryd.ntmps57
    go_wp2
    go_quiet ((go_at_call 70; exact quiet_left (hd _)))
    go_wp2
    go_ret
    exact ⟨rfl, _, rfl⟩
theorem RSt.word (g : Nat) (L : List Int) (v : Value) (k : Nat) (w : World) (h : Rd L v w) (hk : k ≤ L.length) (hs : RSt g v k false w) (hg : (decW (L.drop k)).2.2 = 0) :
    Calls Tryd.prog 57 #[.pointer (some ⟨g, 0, none⟩)] w fun e w' =>
      e = .returned (.int .u64 (decW (L.drop k)).1) ∧ RSt g v (k + (decW (L.drop k)).2.1.toNat) false w' ∧ Below g w w' := by
  obtain ⟨⟨c0, c1, c2⟩, f0, f1, f2⟩ := hs
  refine (word_good g L v k w h hk c0 c1 c2 f1 hg).mono ?_
  rintro e w' ⟨rfl, m, rfl⟩
  have hb := (decW_bd (h.tl k hk).1).2.2.1
  have e1 : (k : Int) + (decW (L.drop k)).2.1 = ((k + (decW (L.drop k)).2.1.toNat : Nat) : Int) := by omega
  rw [e1]
  refine ⟨rfl, ⟨⟨by go_simp, by go_simp, by go_simp⟩, by go_simp, by go_simp, by go_simp⟩, ?_⟩
  exact below_drewN ((Below.refl g w).setCell (p := ⟨g, 1, none⟩) (Nat.le_refl _) _) _
theorem RSt.wordBad (g : Nat) (L : List Int) (v : Value) (k : Nat) (b : Bool) (w : World) (h : Rd L v w) (hk : k ≤ L.length) (hs : RSt g v k b w) (hg : b = true ∨ (decW (L.drop k)).2.2 ≠ 0) :
    Calls Tryd.prog 57 #[.pointer (some ⟨g, 0, none⟩)] w fun e w' =>
      e = .returned (.int .u64 0) ∧ RSt g v k true w' ∧ Below g w w' := by
  obtain ⟨⟨c0, c1, c2⟩, f0, f1, f2⟩ := hs
  refine (word_bad g L v k b w h hk c0 c1 c2 f2 hg).mono ?_
  rintro e w' ⟨rfl, m, rfl⟩
  refine ⟨rfl, ⟨⟨by go_simp, by go_simp, by go_simp⟩, by go_simp, by go_simp, by go_simp⟩, ?_⟩
  exact below_drewN ((Below.refl g w).setCell (p := ⟨g, 2, none⟩) (Nat.le_refl _) _) _
/-- What follows a word. -/
def restW (L : List Int) : List Int := L.drop (decW L).2.1.toNat
end Go.Proofs.YtgnopnifdiipkaaDoor
