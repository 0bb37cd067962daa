/- Reader, RRdr, RNum: in one text. -/
import Derived.Test.YtmmdnomfpfcjiaaTail
import Derived.Test.YtmmdnomfpfcjiaaWires
import Derived.Test.YtmmdnomfpfcjiaaBel
import Derived.Test.YtmmdnomfpfcjiaaWords
import Derived.Test.YtmmdnomfpfcjiaaOthI
namespace Go.Proofs.Ytmmdnomfpfcjiaa
open Go.RowKit
set_option linter.unusedVariables false
set_option linter.unusedSimpArgs false
/-- A number of at most M stands at the head. -/
def numG (L : List Int) (M : Int) : Bool := (decU L).2.2 == 0 && decide ((decU L).1 ≤ M)
set_option maxRecDepth 100000 in
set_option maxHeartbeats 2000000 in
theorem number_good (g : Nat) (L : List Int) (v : Value) (k : Nat) (M : Int) (w : World) (h : Rd L v w) (hk : k ≤ L.length) (M0 : -9223372036854775808 ≤ M) (M1 : M ≤ 9223372036854775807)
    (c0 : w.cell? ⟨g, 0, none⟩ = some v) (c1 : w.cell? ⟨g, 1, none⟩ = some (.int .i64 (k : Int))) (c2 : w.cell? ⟨g, 2, none⟩ = some (.bool false)) (f1 : w.frozen? ⟨g, 1, none⟩ = false) (hg : numG (L.drop k) M = true) :
    Calls Try.prog 48 #[.pointer (some ⟨g, 0, none⟩), .int .i64 M] w fun e w' =>
      e = .returned (.int .i64 (decU (L.drop k)).1) ∧ ∃ m, w' = (w.setCell ⟨g, 1, none⟩ (.int .i64 ((k : Int) + (decU (L.drop k)).2.1))).drewN m := by
  have hr := fun w => tlV_run h k hk w
  have ht := h.tl k hk
  have hd := fun n => rdecUint_any (L.drop k) (tlV v k) (w.drewN n) ht
  obtain ⟨b0, b1, b2, b3, b4, b5, b6, b7⟩ := decU_bd ht.1
  have hl : (k : Int) + (decU (L.drop k)).2.1 ≤ 9223372036854775807 := by
    obtain ⟨_, _, _, _, h1, h2, _⟩ := h
    unfold maxLen at h2
    rw [List.length_drop] at b3
    omega
  unfold numG at hg
  rw [Bool.and_eq_true, beq_iff_eq, decide_eq_true_eq] at hg
  generalize tlV v k = u at *
  generalize (decU (L.drop k)).1 = n at *
  generalize (decU (L.drop k)).2.1 = j at *
  generalize (decU (L.drop k)).2.2 = e at *
  obtain ⟨rfl, hM⟩ := hg
  clear h ht b7 b3
  go_enter Try.func48, Try.ntmps48
  go_wp2
  go_quiet ((go_at_call 64; exact quiet_left (hd _)))
  go_wp2
  go_ret
  exact ⟨rfl, _, rfl⟩
set_option maxRecDepth 100000 in
set_option maxHeartbeats 2000000 in
theorem number_bad (g : Nat) (L : List Int) (v : Value) (k : Nat) (b : Bool) (M : Int) (w : World) (h : Rd L v w) (hk : k ≤ L.length) (M0 : -9223372036854775808 ≤ M) (M1 : M ≤ 9223372036854775807)
    (c0 : w.cell? ⟨g, 0, none⟩ = some v) (c1 : w.cell? ⟨g, 1, none⟩ = some (.int .i64 (k : Int))) (c2 : w.cell? ⟨g, 2, none⟩ = some (.bool b)) (f2 : w.frozen? ⟨g, 2, none⟩ = false) (hg : b = true ∨ numG (L.drop k) M = false) :
    Calls Try.prog 48 #[.pointer (some ⟨g, 0, none⟩), .int .i64 M] w fun e w' =>
      e = .returned (.int .i64 0) ∧ ∃ m, w' = (w.setCell ⟨g, 2, none⟩ (.bool true)).drewN m := by
  have hr := fun w => tlV_run h k hk w
  have ht := h.tl k hk
  have hd := fun n => rdecUint_any (L.drop k) (tlV v k) (w.drewN n) ht
  obtain ⟨b0, b1, b2, b3, b4, b5, b6, b7⟩ := decU_bd ht.1
  have hl : (k : Int) + (decU (L.drop k)).2.1 ≤ 9223372036854775807 := by
    obtain ⟨_, _, _, _, h1, h2, _⟩ := h
    unfold maxLen at h2
    rw [List.length_drop] at b3
    omega
  unfold numG at hg
  generalize tlV v k = u at *
  generalize (decU (L.drop k)).1 = n at *
  generalize (decU (L.drop k)).2.1 = j at *
  generalize (decU (L.drop k)).2.2 = e at *
  clear h ht b7 b3
  by_cases hb : b = true
  · subst hb
    clear hg
    go_enter Try.func48, Try.ntmps48
    go_wp2
    go_quiet ((go_at_call 64; exact quiet_left (hd _)))
    go_wp2
    go_ret
    exact ⟨rfl, _, rfl⟩
  · have hb' : b = false := by simpa using hb
    subst hb'
    clear hb
    by_cases he : e = 0
    · subst he
      have hM : M < n := by simpa using hg
      clear hg
      go_enter Try.func48, Try.ntmps48
      go_wp2
      go_quiet ((go_at_call 64; exact quiet_left (hd _)))
      go_wp2
      go_ret
      exact ⟨rfl, _, rfl⟩
    · have he' : (e != 0) = true := by simp [he]
      clear hg he
      go_enter Try.func48, Try.ntmps48
      go_wp2
      go_quiet ((go_at_call 64; exact quiet_left (hd _)))
      go_wp2
      go_ret
      exact ⟨rfl, _, rfl⟩
/-- Everything was read, without an error. -/
theorem done_any (g : Nat) (L : List Int) (v : Value) (k : Int) (b : Bool) (w : World) (h : Rd L v w)
    (c0 : w.cell? ⟨g, 0, none⟩ = some v) (c1 : w.cell? ⟨g, 1, none⟩ = some (.int .i64 k)) (c2 : w.cell? ⟨g, 2, none⟩ = some (.bool b)) :
    Calls Try.prog 50 #[.pointer (some ⟨g, 0, none⟩)] w fun e w' => e = .returned (.bool (!b && decide (k = L.length))) ∧ ∃ m, w' = w.drewN m := by
  obtain ⟨hy, a, cap, rfl, h1, h2, h3⟩ := h
  unfold maxLen at h2
  cases b
  all_goals
    go_enter Try.func50, Try.ntmps50
    go_wp2
    go_quiet (fail)
    go_wp2
    go_ret
    exact ⟨ret_bool (by simp [BEq.beq]), _, rfl⟩
/-- A reader in memory: its bytes, how far it is, whether something was wrong. -/
def RSt (g : Nat) (v : Value) (k : Nat) (b : Bool) (w : World) : Prop :=
  (w.cell? ⟨g, 0, none⟩ = some v ∧ w.cell? ⟨g, 1, none⟩ = some (.int .i64 (k : Int)) ∧ w.cell? ⟨g, 2, none⟩ = some (.bool b)) ∧
    w.frozen? ⟨g, 0, none⟩ = false ∧ w.frozen? ⟨g, 1, none⟩ = false ∧ w.frozen? ⟨g, 2, none⟩ = false
theorem RSt.number (g : Nat) (L : List Int) (v : Value) (k : Nat) (M : Int) (w : World) (h : Rd L v w) (hk : k ≤ L.length) (M0 : -9223372036854775808 ≤ M) (M1 : M ≤ 9223372036854775807) (hs : RSt g v k false w) (hg : numG (L.drop k) M = true) :
    Calls Try.prog 48 #[.pointer (some ⟨g, 0, none⟩), .int .i64 M] w fun e w' =>
      e = .returned (.int .i64 (decU (L.drop k)).1) ∧ RSt g v (k + (decU (L.drop k)).2.1.toNat) false w' ∧ Below g w w' := by
  obtain ⟨⟨c0, c1, c2⟩, f0, f1, f2⟩ := hs
  refine (number_good g L v k M w h hk M0 M1 c0 c1 c2 f1 hg).mono ?_
  rintro e w' ⟨rfl, m, rfl⟩
  have hb := (decU_bd (h.tl k hk).1).2.2.1
  have e1 : (k : Int) + (decU (L.drop k)).2.1 = ((k + (decU (L.drop k)).2.1.toNat : Nat) : Int) := by omega
  rw [e1]
  refine ⟨rfl, ⟨⟨by go_simp, by go_simp, by go_simp⟩, by go_simp, by go_simp, by go_simp⟩, ?_⟩
  exact below_drewN ((Below.refl g w).setCell (p := ⟨g, 1, none⟩) (Nat.le_refl _) _) _
theorem RSt.wrong (g : Nat) (L : List Int) (v : Value) (k : Nat) (b : Bool) (M : Int) (w : World) (h : Rd L v w) (hk : k ≤ L.length) (M0 : -9223372036854775808 ≤ M) (M1 : M ≤ 9223372036854775807) (hs : RSt g v k b w) (hg : b = true ∨ numG (L.drop k) M = false) :
    Calls Try.prog 48 #[.pointer (some ⟨g, 0, none⟩), .int .i64 M] w fun e w' =>
      e = .returned (.int .i64 0) ∧ RSt g v k true w' ∧ Below g w w' := by
  obtain ⟨⟨c0, c1, c2⟩, f0, f1, f2⟩ := hs
  refine (number_bad g L v k b M w h hk M0 M1 c0 c1 c2 f2 hg).mono ?_
  rintro e w' ⟨rfl, m, rfl⟩
  refine ⟨rfl, ⟨⟨by go_simp, by go_simp, by go_simp⟩, by go_simp, by go_simp, by go_simp⟩, ?_⟩
  exact below_drewN ((Below.refl g w).setCell (p := ⟨g, 2, none⟩) (Nat.le_refl _) _) _
theorem RSt.done (g : Nat) (L : List Int) (v : Value) (k : Nat) (b : Bool) (w : World) (h : Rd L v w) (hs : RSt g v k b w) :
    Calls Try.prog 50 #[.pointer (some ⟨g, 0, none⟩)] w fun e w' => e = .returned (.bool (!b && decide (k = L.length))) ∧ ∃ m, w' = w.drewN m := by
  obtain ⟨⟨c0, c1, c2⟩, f0, f1, f2⟩ := hs
  have := done_any g L v k b w h c0 c1 c2
  have e : decide ((k : Int) = (L.length : Int)) = decide (k = L.length) := by
    rw [Bool.eq_iff_iff]; simp only [decide_eq_true_eq]; omega
  rw [e] at this
  exact this
theorem numG_no {L : List Int} {M : Int} (h : numG L M = false) : (decU L).2.2 ≠ 0 ∨ M < (decU L).1 := by
  unfold numG at h
  by_cases he : (decU L).2.2 = 0
  · rw [he] at h
    exact .inr (by simpa using h)
  · exact .inl he
theorem numG_yes {L : List Int} {M : Int} (h : numG L M = true) : (decU L).2.2 = 0 ∧ (decU L).1 ≤ M := by
  unfold numG at h
  rw [Bool.and_eq_true, beq_iff_eq, decide_eq_true_eq] at h
  exact h
theorem rst_keep {g : Nat} {v : Value} {k : Nat} {b : Bool} {w w' : World} (h : RSt g v k b w) (hb : Below w.heap.size w w') (hg : g < w.heap.size) : RSt g v k b w' := by
  obtain ⟨⟨h0, h1, h2⟩, h3, h4, h5⟩ := h
  obtain ⟨hc, hf⟩ := bcell hb
  exact ⟨⟨(hc _ _ hg).trans h0, (hc _ _ hg).trans h1, (hc _ _ hg).trans h2⟩, (hf _ _ hg).trans h3, (hf _ _ hg).trans h4, (hf _ _ hg).trans h5⟩
/-- What is wrong reads as 0. -/
theorem decU_zero {L : List Int} (h : (decU L).2.2 ≠ 0) : (decU L).1 = 0 := by
  unfold decU at h ⊢
  split
  · rfl
  · rw [if_neg (by assumption)] at h
    split
    · rw [if_pos (by assumption)] at h
      exact absurd rfl h
    · rw [if_neg (by assumption)] at h
      split
      · rfl
      · rw [if_neg (by assumption)] at h
        split
        · rfl
        · rw [if_neg (by assumption)] at h
          exact absurd rfl h
theorem decW_bd {L : List Int} (hy : Byt L) : 0 ≤ (decW L).1 ∧ (decW L).1 ≤ 18446744073709551615 ∧ 0 ≤ (decW L).2.1 ∧ (decW L).2.1 ≤ L.length ∧ (decW L).2.1 ≤ 8 := by
  unfold decW
  split
  · simp
  · have := val_bd (L.take 8) (hy.take 8)
    have e : (L.take 8).length = 8 := by simp; omega
    rw [e] at this
    have e2 : ((256 ^ 8 : Nat) : Int) = 18446744073709551616 := by decide
    rw [e2] at this
    dsimp only
    omega
/-- What follows a word. -/
def restW (L : List Int) : List Int := L.drop (decW L).2.1.toNat
/-- A reader of the reference at the bytes R of L. -/
def RS (W : World) (g : Nat) (L R : List Int) (b : Bool) (w : World) : Prop := ∃ v k, Rd L v W ∧ k ≤ L.length ∧ L.drop k = R ∧ RSt g v k b w
theorem RSt.keep {g : Nat} {v : Value} {k : Nat} {b : Bool} {w w' : World} (h : RSt g v k b w) (hb : w'.heap[g]? = w.heap[g]?) : RSt g v k b w' := by
  obtain ⟨⟨h0, h1, h2⟩, f0, f1, f2⟩ := h
  have hc : ∀ o, w'.cell? ⟨g, o, none⟩ = w.cell? ⟨g, o, none⟩ := fun o => World.cell?_of_block (w := w) (a := ⟨g, o, none⟩) hb
  have hf : ∀ o, w'.frozen? ⟨g, o, none⟩ = w.frozen? ⟨g, o, none⟩ := fun o => World.frozen?_of_block (w := w) (a := ⟨g, o, none⟩) hb
  exact ⟨⟨(hc _).trans h0, (hc _).trans h1, (hc _).trans h2⟩, (hf _).trans f0, (hf _).trans f1, (hf _).trans f2⟩
theorem RS.keep {W : World} {g : Nat} {L R : List Int} {b : Bool} {w w' : World} (h : RS W g L R b w) (hb : w'.heap[g]? = w.heap[g]?) : RS W g L R b w' := by
  obtain ⟨v, k, h1, h2, h3, h4⟩ := h
  exact ⟨v, k, h1, h2, h3, h4.keep hb⟩
theorem RS.size {W : World} {g : Nat} {L R : List Int} {b : Bool} {w : World} (h : RS W g L R b w) : g < w.heap.size := by
  obtain ⟨v, k, _, _, _, h4⟩ := h
  exact block_lt_of_cell h4.1.1
theorem RS.byt {W : World} {g : Nat} {L R : List Int} {b : Bool} {w : World} (h : RS W g L R b w) : Byt R := by
  obtain ⟨v, k, h1, _, rfl, _⟩ := h
  exact h1.1.drop _
theorem Oth.one (g : Nat) (w : World) (o : Nat) (u : Value) (m : Nat) : Oth g w ((w.setCell ⟨g, o, none⟩ u).drewN m) :=
  ⟨below_drewN ((Below.refl g w).setCell (p := ⟨g, o, none⟩) (Nat.le_refl _) _) _, fun b hb => Below.heap_setCell w ⟨g, o, none⟩ _ _ hb⟩
/-- What one reading of a number gives. -/
def NumP (R : List Int) (M : Int) (b : Bool) (n : Int) (b' : Bool) (R' : List Int) : Prop :=
  (b = false ∧ numG R M = true ∧ n = (decU R).1 ∧ b' = false ∧ R' = restU R) ∨ ((b = true ∨ numG R M = false) ∧ n = 0 ∧ b' = true ∧ R' = R)
theorem NumP.bd {R : List Int} {M : Int} {b : Bool} {n : Int} {b' : Bool} {R' : List Int} (h : NumP R M b n b' R') (hy : Byt R) (hM : 0 ≤ M) : 0 ≤ n ∧ n ≤ M := by
  rcases h with ⟨_, h1, h2, _⟩ | ⟨_, h2, _⟩
  · have := numG_yes h1
    have := (decU_bd hy).1
    omega
  · omega
theorem rnum_any {W : World} {g : Nat} {L R : List Int} {b : Bool} {w : World} (M : Int) (M0 : 0 ≤ M) (M1 : M ≤ 9223372036854775807) (h : RS W g L R b w) (hb : Below W.heap.size W w) :
    Calls Try.prog 48 #[.pointer (some ⟨g, 0, none⟩), .int .i64 M] w fun e w' =>
      ∃ n b' R', e = .returned (.int .i64 n) ∧ NumP R M b n b' R' ∧ RS W g L R' b' w' ∧ Oth g w w' := by
  obtain ⟨v, k, h1, h2, rfl, ⟨c0, c1, c2⟩, f0, f1, f2⟩ := h
  by_cases hg : b = false ∧ numG (L.drop k) M = true
  · obtain ⟨rfl, hg⟩ := hg
    refine (number_good g L v k M w (h1.below hb) h2 (by omega) M1 c0 c1 c2 f1 hg).mono ?_
    rintro e w' ⟨rfl, m, rfl⟩
    have hbd := decU_bd (h1.1.drop k)
    rw [List.length_drop] at hbd
    have e1 : (k : Int) + (decU (L.drop k)).2.1 = ((k + (decU (L.drop k)).2.1.toNat : Nat) : Int) := by omega
    refine ⟨_, false, restU (L.drop k), rfl, .inl ⟨rfl, hg, rfl, rfl, rfl⟩, ⟨v, k + (decU (L.drop k)).2.1.toNat, h1, by omega, by unfold restU; rw [List.drop_drop], ?_⟩, Oth.one _ _ _ _ _⟩
    rw [e1]
    exact ⟨⟨by go_simp, by go_simp, by go_simp⟩, by go_simp, by go_simp, by go_simp⟩
  · have hg' : b = true ∨ numG (L.drop k) M = false := by
      by_cases hbt : b = true
      · exact .inl hbt
      · refine .inr ?_
        have : ¬ numG (L.drop k) M = true := fun h => hg ⟨by simpa using hbt, h⟩
        simpa using this
    refine (number_bad g L v k b M w (h1.below hb) h2 (by omega) M1 c0 c1 c2 f2 hg').mono ?_
    rintro e w' ⟨rfl, m, rfl⟩
    exact ⟨0, true, L.drop k, rfl, .inr ⟨hg', rfl, rfl, rfl⟩, ⟨v, k, h1, h2, rfl, ⟨by go_simp, by go_simp, by go_simp⟩, by go_simp, by go_simp, by go_simp⟩, Oth.one _ _ _ _ _⟩
/-- What one reading of a word gives. -/
def WorP (R : List Int) (b : Bool) (x : Int) (b' : Bool) (R' : List Int) : Prop :=
  (b = false ∧ (decW R).2.2 = 0 ∧ x = (decW R).1 ∧ b' = false ∧ R' = restW R) ∨ ((b = true ∨ (decW R).2.2 ≠ 0) ∧ x = 0 ∧ b' = true ∧ R' = R)
theorem rdone_any {W : World} {g : Nat} {L R : List Int} {b : Bool} {w : World} (h : RS W g L R b w) (hb : Below W.heap.size W w) :
    Calls Try.prog 50 #[.pointer (some ⟨g, 0, none⟩)] w fun e w' => e = .returned (.bool (!b && R.isEmpty)) ∧ ∃ m, w' = w.drewN m := by
  obtain ⟨v, k, h1, h2, rfl, hs⟩ := h
  have := RSt.done g L v k b w (h1.below hb) hs
  have e : decide (k = L.length) = (L.drop k).isEmpty := by
    rw [Bool.eq_iff_iff, decide_eq_true_eq, List.isEmpty_iff, List.drop_eq_nil_iff]
    omega
  rw [e] at this
  exact this
end Go.Proofs.Ytmmdnomfpfcjiaa
