/- RdrN, WireFacts, RcA, RcB, RcC, RcD, RcF, RcE, RcG, Law11C: in one text. -/
import Derived.Test.YtdifilhfmbpalaaDoorTail
import Derived.Test.YtdifilhfmbpalaaDoorWires
import Derived.Test.YtdifilhfmbpalaaDoorBel
import Derived.Test.YtdifilhfmbpalaaDoorWords
import Derived.Test.YtdifilhfmbpalaaDoorOthI
import Derived.Test.YtdifilhfmbpalaaDoorStepApp
import Derived.Test.YtdifilhfmbpalaaDoorMeetX
import Derived.Test.YtdifilhfmbpalaaDoorRRkB
import Derived.Test.YtdifilhfmbpalaaDoorRkZ
import Derived.Test.YtdifilhfmbpalaaDoorPRVal
import Derived.Test.YtdifilhfmbpalaaDoorRRVal
import Derived.Test.YtdifilhfmbpalaaDoorRkL
import Derived.Test.YtdifilhfmbpalaaDoorSpoilR
import Derived.Test.YtdifilhfmbpalaaDoorMadeR
import Derived.Test.YtdifilhfmbpalaaDoorRdIn
import Derived.Deep.Cut
import Derived.Deep.RegionHeld3
import Derived.Deep.RegionLaw
namespace Go.Proofs.YtdifilhfmbpalaaDoor
open Go.RowKit
set_option linter.unusedVariables false
set_option linter.unusedSimpArgs false
/-- A number of at most M stands at the head. -/
def numG (L : List Int) (M : Int) : Bool := (decU L).2.2 == 0 && decide ((decU L).1 ≤ M)
set_option maxRecDepth 100000 in
set_option maxHeartbeats 2000000 in
theorem number_good (g : Nat) (L : List Int) (v : Value) (k : Nat) (M : Int) (w : World) (h : Rd L v w) (hk : k ≤ L.length) (M0 : -9223372036854775808 ≤ M) (M1 : M ≤ 9223372036854775807)
    (c0 : w.cell? ⟨g, 0, none⟩ = some v) (c1 : w.cell? ⟨g, 1, none⟩ = some (.int .i64 (k : Int))) (c2 : w.cell? ⟨g, 2, none⟩ = some (.bool false)) (f1 : w.frozen? ⟨g, 1, none⟩ = false) (hg : numG (L.drop k) M = true) :
    Calls Tryd.prog 64 #[.pointer (some ⟨g, 0, none⟩), .int .i64 M] w fun e w' =>
      e = .returned (.int .i64 (decU (L.drop k)).1) ∧ ∃ m, w' = (w.setCell ⟨g, 1, none⟩ (.int .i64 ((k : Int) + (decU (L.drop k)).2.1))).drewN m := by
  have hr := fun w => tlV_run h k hk w
  have ht := h.tl k hk
  have hd := fun n => rdecUint_any (L.drop k) (tlV v k) (w.drewN n) ht
  obtain ⟨b0, b1, b2, b3, b4, b5, b6, b7⟩ := decU_bd ht.1
  have hl : (k : Int) + (decU (L.drop k)).2.1 ≤ 9223372036854775807 := by
    obtain ⟨_, _, _, _, h1, h2, _⟩ := h
    unfold maxLen at h2
    rw [List.length_drop] at b3
    omega
  unfold numG at hg
  rw [Bool.and_eq_true, beq_iff_eq, decide_eq_true_eq] at hg
  generalize tlV v k = u at *
  generalize (decU (L.drop k)).1 = n at *
  generalize (decU (L.drop k)).2.1 = j at *
  generalize (decU (L.drop k)).2.2 = e at *
  obtain ⟨rfl, hM⟩ := hg
  clear h ht b7 b3
  go_enter Tryd.func64, Tryd.ntmps64
  go_wp2
  go_quiet ((go_at_call 83; exact quiet_left (hd _)))
  go_wp2
  go_ret
  exact ⟨rfl, _, rfl⟩
set_option maxRecDepth 100000 in
set_option maxHeartbeats 2000000 in
theorem number_bad (g : Nat) (L : List Int) (v : Value) (k : Nat) (b : Bool) (M : Int) (w : World) (h : Rd L v w) (hk : k ≤ L.length) (M0 : -9223372036854775808 ≤ M) (M1 : M ≤ 9223372036854775807)
    (c0 : w.cell? ⟨g, 0, none⟩ = some v) (c1 : w.cell? ⟨g, 1, none⟩ = some (.int .i64 (k : Int))) (c2 : w.cell? ⟨g, 2, none⟩ = some (.bool b)) (f2 : w.frozen? ⟨g, 2, none⟩ = false) (hg : b = true ∨ numG (L.drop k) M = false) :
    Calls Tryd.prog 64 #[.pointer (some ⟨g, 0, none⟩), .int .i64 M] w fun e w' =>
      e = .returned (.int .i64 0) ∧ ∃ m, w' = (w.setCell ⟨g, 2, none⟩ (.bool true)).drewN m := by
  have hr := fun w => tlV_run h k hk w
  have ht := h.tl k hk
  have hd := fun n => rdecUint_any (L.drop k) (tlV v k) (w.drewN n) ht
  obtain ⟨b0, b1, b2, b3, b4, b5, b6, b7⟩ := decU_bd ht.1
  have hl : (k : Int) + (decU (L.drop k)).2.1 ≤ 9223372036854775807 := by
    obtain ⟨_, _, _, _, h1, h2, _⟩ := h
    unfold maxLen at h2
    rw [List.length_drop] at b3
    omega
  unfold numG at hg
  generalize tlV v k = u at *
  generalize (decU (L.drop k)).1 = n at *
  generalize (decU (L.drop k)).2.1 = j at *
  generalize (decU (L.drop k)).2.2 = e at *
  clear h ht b7 b3
  by_cases hb : b = true
  · subst hb
    clear hg
    go_enter Tryd.func64, Tryd.ntmps64
    go_wp2
    go_quiet ((go_at_call 83; exact quiet_left (hd _)))
    go_wp2
    go_ret
    exact ⟨rfl, _, rfl⟩
  · have hb' : b = false := by simpa using hb
    subst hb'
    clear hb
    by_cases he : e = 0
    · subst he
      have hM : M < n := by simpa using hg
      clear hg
      go_enter Tryd.func64, Tryd.ntmps64
      go_wp2
      go_quiet ((go_at_call 83; exact quiet_left (hd _)))
      go_wp2
      go_ret
      exact ⟨rfl, _, rfl⟩
    · have he' : (e != 0) = true := by simp [he]
      clear hg he
      go_enter Tryd.func64, Tryd.ntmps64
      go_wp2
      go_quiet ((go_at_call 83; exact quiet_left (hd _)))
      go_wp2
      go_ret
      exact ⟨rfl, _, rfl⟩
/-- Everything was read, without an error. -/
theorem done_any (g : Nat) (L : List Int) (v : Value) (k : Int) (b : Bool) (w : World) (h : Rd L v w)
    (c0 : w.cell? ⟨g, 0, none⟩ = some v) (c1 : w.cell? ⟨g, 1, none⟩ = some (.int .i64 k)) (c2 : w.cell? ⟨g, 2, none⟩ = some (.bool b)) :
    Calls Tryd.prog 66 #[.pointer (some ⟨g, 0, none⟩)] w fun e w' => e = .returned (.bool (!b && decide (k = L.length))) ∧ ∃ m, w' = w.drewN m := by
  obtain ⟨hy, a, cap, rfl, h1, h2, h3⟩ := h
  unfold maxLen at h2
  cases b
  all_goals
    go_enter Tryd.func66, Tryd.ntmps66
    go_wp2
    go_quiet (fail)
    go_wp2
    go_ret
    exact ⟨ret_bool (by simp [BEq.beq]), _, rfl⟩
/-- A reader in memory: its bytes, how far it is, whether something was wrong. -/
def RSt (g : Nat) (v : Value) (k : Nat) (b : Bool) (w : World) : Prop :=
  (w.cell? ⟨g, 0, none⟩ = some v ∧ w.cell? ⟨g, 1, none⟩ = some (.int .i64 (k : Int)) ∧ w.cell? ⟨g, 2, none⟩ = some (.bool b)) ∧
    w.frozen? ⟨g, 0, none⟩ = false ∧ w.frozen? ⟨g, 1, none⟩ = false ∧ w.frozen? ⟨g, 2, none⟩ = false
theorem RSt.number (g : Nat) (L : List Int) (v : Value) (k : Nat) (M : Int) (w : World) (h : Rd L v w) (hk : k ≤ L.length) (M0 : -9223372036854775808 ≤ M) (M1 : M ≤ 9223372036854775807) (hs : RSt g v k false w) (hg : numG (L.drop k) M = true) :
    Calls Tryd.prog 64 #[.pointer (some ⟨g, 0, none⟩), .int .i64 M] w fun e w' =>
      e = .returned (.int .i64 (decU (L.drop k)).1) ∧ RSt g v (k + (decU (L.drop k)).2.1.toNat) false w' ∧ Below g w w' := by
  obtain ⟨⟨c0, c1, c2⟩, f0, f1, f2⟩ := hs
  refine (number_good g L v k M w h hk M0 M1 c0 c1 c2 f1 hg).mono ?_
  rintro e w' ⟨rfl, m, rfl⟩
  have hb := (decU_bd (h.tl k hk).1).2.2.1
  have e1 : (k : Int) + (decU (L.drop k)).2.1 = ((k + (decU (L.drop k)).2.1.toNat : Nat) : Int) := by omega
  rw [e1]
  refine ⟨rfl, ⟨⟨by go_simp, by go_simp, by go_simp⟩, by go_simp, by go_simp, by go_simp⟩, ?_⟩
  exact below_drewN ((Below.refl g w).setCell (p := ⟨g, 1, none⟩) (Nat.le_refl _) _) _
theorem RSt.wrong (g : Nat) (L : List Int) (v : Value) (k : Nat) (b : Bool) (M : Int) (w : World) (h : Rd L v w) (hk : k ≤ L.length) (M0 : -9223372036854775808 ≤ M) (M1 : M ≤ 9223372036854775807) (hs : RSt g v k b w) (hg : b = true ∨ numG (L.drop k) M = false) :
    Calls Tryd.prog 64 #[.pointer (some ⟨g, 0, none⟩), .int .i64 M] w fun e w' =>
      e = .returned (.int .i64 0) ∧ RSt g v k true w' ∧ Below g w w' := by
  obtain ⟨⟨c0, c1, c2⟩, f0, f1, f2⟩ := hs
  refine (number_bad g L v k b M w h hk M0 M1 c0 c1 c2 f2 hg).mono ?_
  rintro e w' ⟨rfl, m, rfl⟩
  refine ⟨rfl, ⟨⟨by go_simp, by go_simp, by go_simp⟩, by go_simp, by go_simp, by go_simp⟩, ?_⟩
  exact below_drewN ((Below.refl g w).setCell (p := ⟨g, 2, none⟩) (Nat.le_refl _) _) _
theorem RSt.done (g : Nat) (L : List Int) (v : Value) (k : Nat) (b : Bool) (w : World) (h : Rd L v w) (hs : RSt g v k b w) :
    Calls Tryd.prog 66 #[.pointer (some ⟨g, 0, none⟩)] w fun e w' => e = .returned (.bool (!b && decide (k = L.length))) ∧ ∃ m, w' = w.drewN m := by
  obtain ⟨⟨c0, c1, c2⟩, f0, f1, f2⟩ := hs
  have := done_any g L v k b w h c0 c1 c2
  have e : decide ((k : Int) = (L.length : Int)) = decide (k = L.length) := by
    rw [Bool.eq_iff_iff]; simp only [decide_eq_true_eq]; omega
  rw [e] at this
  exact this
theorem numG_no {L : List Int} {M : Int} (h : numG L M = false) : (decU L).2.2 ≠ 0 ∨ M < (decU L).1 := by
  unfold numG at h
  by_cases he : (decU L).2.2 = 0
  · rw [he] at h
    exact .inr (by simpa using h)
  · exact .inl he
theorem numG_yes {L : List Int} {M : Int} (h : numG L M = true) : (decU L).2.2 = 0 ∧ (decU L).1 ≤ M := by
  unfold numG at h
  rw [Bool.and_eq_true, beq_iff_eq, decide_eq_true_eq] at h
  exact h
theorem rst_keep {g : Nat} {v : Value} {k : Nat} {b : Bool} {w w' : World} (h : RSt g v k b w) (hb : Below w.heap.size w w') (hg : g < w.heap.size) : RSt g v k b w' := by
  obtain ⟨⟨h0, h1, h2⟩, h3, h4, h5⟩ := h
  obtain ⟨hc, hf⟩ := bcell hb
  exact ⟨⟨(hc _ _ hg).trans h0, (hc _ _ hg).trans h1, (hc _ _ hg).trans h2⟩, (hf _ _ hg).trans h3, (hf _ _ hg).trans h4, (hf _ _ hg).trans h5⟩
/-- What is wrong reads as 0. -/
theorem decU_zero {L : List Int} (h : (decU L).2.2 ≠ 0) : (decU L).1 = 0 := by
  unfold decU at h ⊢
  split
  · rfl
  · rw [if_neg (by assumption)] at h
    split
    · rw [if_pos (by assumption)] at h
      exact absurd rfl h
    · rw [if_neg (by assumption)] at h
      split
      · rfl
      · rw [if_neg (by assumption)] at h
        split
        · rfl
        · rw [if_neg (by assumption)] at h
          exact absurd rfl h
theorem decW_bd {L : List Int} (hy : Byt L) : 0 ≤ (decW L).1 ∧ (decW L).1 ≤ 18446744073709551615 ∧ 0 ≤ (decW L).2.1 ∧ (decW L).2.1 ≤ L.length ∧ (decW L).2.1 ≤ 8 := by
  unfold decW
  split
  · simp
  · have := val_bd (L.take 8) (hy.take 8)
    have e : (L.take 8).length = 8 := by simp; omega
    rw [e] at this
    have e2 : ((256 ^ 8 : Nat) : Int) = 18446744073709551616 := by decide
    rw [e2] at this
    dsimp only
    omega
/-- What follows a word. -/
def restW (L : List Int) : List Int := L.drop (decW L).2.1.toNat
/-- A reader of the reference at the bytes R of L. -/
def RS (W : World) (g : Nat) (L R : List Int) (b : Bool) (w : World) : Prop := ∃ v k, Rd L v W ∧ k ≤ L.length ∧ L.drop k = R ∧ RSt g v k b w
theorem RSt.keep {g : Nat} {v : Value} {k : Nat} {b : Bool} {w w' : World} (h : RSt g v k b w) (hb : w'.heap[g]? = w.heap[g]?) : RSt g v k b w' := by
  obtain ⟨⟨h0, h1, h2⟩, f0, f1, f2⟩ := h
  have hc : ∀ o, w'.cell? ⟨g, o, none⟩ = w.cell? ⟨g, o, none⟩ := fun o => World.cell?_of_block (w := w) (a := ⟨g, o, none⟩) hb
  have hf : ∀ o, w'.frozen? ⟨g, o, none⟩ = w.frozen? ⟨g, o, none⟩ := fun o => World.frozen?_of_block (w := w) (a := ⟨g, o, none⟩) hb
  exact ⟨⟨(hc _).trans h0, (hc _).trans h1, (hc _).trans h2⟩, (hf _).trans f0, (hf _).trans f1, (hf _).trans f2⟩
theorem RS.keep {W : World} {g : Nat} {L R : List Int} {b : Bool} {w w' : World} (h : RS W g L R b w) (hb : w'.heap[g]? = w.heap[g]?) : RS W g L R b w' := by
  obtain ⟨v, k, h1, h2, h3, h4⟩ := h
  exact ⟨v, k, h1, h2, h3, h4.keep hb⟩
theorem RS.size {W : World} {g : Nat} {L R : List Int} {b : Bool} {w : World} (h : RS W g L R b w) : g < w.heap.size := by
  obtain ⟨v, k, _, _, _, h4⟩ := h
  exact block_lt_of_cell h4.1.1
theorem RS.byt {W : World} {g : Nat} {L R : List Int} {b : Bool} {w : World} (h : RS W g L R b w) : Byt R := by
  obtain ⟨v, k, h1, _, rfl, _⟩ := h
  exact h1.1.drop _
theorem Oth.one (g : Nat) (w : World) (o : Nat) (u : Value) (m : Nat) : Oth g w ((w.setCell ⟨g, o, none⟩ u).drewN m) :=
  ⟨below_drewN ((Below.refl g w).setCell (p := ⟨g, o, none⟩) (Nat.le_refl _) _) _, fun b hb => Below.heap_setCell w ⟨g, o, none⟩ _ _ hb⟩
/-- What one reading of a number gives. -/
def NumP (R : List Int) (M : Int) (b : Bool) (n : Int) (b' : Bool) (R' : List Int) : Prop :=
  (b = false ∧ numG R M = true ∧ n = (decU R).1 ∧ b' = false ∧ R' = restU R) ∨ ((b = true ∨ numG R M = false) ∧ n = 0 ∧ b' = true ∧ R' = R)
theorem NumP.bd {R : List Int} {M : Int} {b : Bool} {n : Int} {b' : Bool} {R' : List Int} (h : NumP R M b n b' R') (hy : Byt R) (hM : 0 ≤ M) : 0 ≤ n ∧ n ≤ M := by
  rcases h with ⟨_, h1, h2, _⟩ | ⟨_, h2, _⟩
  · have := numG_yes h1
    have := (decU_bd hy).1
    omega
  · omega
theorem rnum_any {W : World} {g : Nat} {L R : List Int} {b : Bool} {w : World} (M : Int) (M0 : 0 ≤ M) (M1 : M ≤ 9223372036854775807) (h : RS W g L R b w) (hb : Below W.heap.size W w) :
    Calls Tryd.prog 64 #[.pointer (some ⟨g, 0, none⟩), .int .i64 M] w fun e w' =>
      ∃ n b' R', e = .returned (.int .i64 n) ∧ NumP R M b n b' R' ∧ RS W g L R' b' w' ∧ Oth g w w' := by
  obtain ⟨v, k, h1, h2, rfl, ⟨c0, c1, c2⟩, f0, f1, f2⟩ := h
  by_cases hg : b = false ∧ numG (L.drop k) M = true
  · obtain ⟨rfl, hg⟩ := hg
    refine (number_good g L v k M w (h1.below hb) h2 (by omega) M1 c0 c1 c2 f1 hg).mono ?_
    rintro e w' ⟨rfl, m, rfl⟩
    have hbd := decU_bd (h1.1.drop k)
    rw [List.length_drop] at hbd
    have e1 : (k : Int) + (decU (L.drop k)).2.1 = ((k + (decU (L.drop k)).2.1.toNat : Nat) : Int) := by omega
    refine ⟨_, false, restU (L.drop k), rfl, .inl ⟨rfl, hg, rfl, rfl, rfl⟩, ⟨v, k + (decU (L.drop k)).2.1.toNat, h1, by omega, by unfold restU; rw [List.drop_drop], ?_⟩, Oth.one _ _ _ _ _⟩
    rw [e1]
    exact ⟨⟨by go_simp, by go_simp, by go_simp⟩, by go_simp, by go_simp, by go_simp⟩
  · have hg' : b = true ∨ numG (L.drop k) M = false := by
      by_cases hbt : b = true
      · exact .inl hbt
      · refine .inr ?_
        have : ¬ numG (L.drop k) M = true := fun h => hg ⟨by simpa using hbt, h⟩
        simpa using this
    refine (number_bad g L v k b M w (h1.below hb) h2 (by omega) M1 c0 c1 c2 f2 hg').mono ?_
    rintro e w' ⟨rfl, m, rfl⟩
    exact ⟨0, true, L.drop k, rfl, .inr ⟨hg', rfl, rfl, rfl⟩, ⟨v, k, h1, h2, rfl, ⟨by go_simp, by go_simp, by go_simp⟩, by go_simp, by go_simp, by go_simp⟩, Oth.one _ _ _ _ _⟩
/-- What one reading of a word gives. -/
def WorP (R : List Int) (b : Bool) (x : Int) (b' : Bool) (R' : List Int) : Prop :=
  (b = false ∧ (decW R).2.2 = 0 ∧ x = (decW R).1 ∧ b' = false ∧ R' = restW R) ∨ ((b = true ∨ (decW R).2.2 ≠ 0) ∧ x = 0 ∧ b' = true ∧ R' = R)
theorem rdone_any {W : World} {g : Nat} {L R : List Int} {b : Bool} {w : World} (h : RS W g L R b w) (hb : Below W.heap.size W w) :
    Calls Tryd.prog 66 #[.pointer (some ⟨g, 0, none⟩)] w fun e w' => e = .returned (.bool (!b && R.isEmpty)) ∧ ∃ m, w' = w.drewN m := by
  obtain ⟨v, k, h1, h2, rfl, hs⟩ := h
  have := RSt.done g L v k b w (h1.below hb) hs
  have e : decide (k = L.length) = (L.drop k).isEmpty := by
    rw [Bool.eq_iff_iff, decide_eq_true_eq, List.isEmpty_iff, List.drop_eq_nil_iff]
    omega
  rw [e] at this
  exact this
theorem val_cons (c : Int) : ∀ L, val (c :: L) = c * ((256 ^ L.length : Nat) : Int) + val L := by
  intro L
  induction L using snoc_ind with
  | h0 => simp [val]
  | h1 L d ih =>
    have e : c :: (L ++ [d]) = (c :: L) ++ [d] := rfl
    rw [e, val_snoc, val_snoc, ih, List.length_append, List.length_singleton, Nat.pow_succ]
    generalize 256 ^ L.length = p
    have e2 : ((p * 256 : Nat) : Int) = (p : Int) * 256 := by omega
    rw [e2, Int.add_mul, Int.mul_assoc, Int.add_assoc]
theorem take_one_drop {L : List Int} (h : 1 < L.length) : ∃ R, L.drop 1 = L.getD 1 0 :: R := by
  refine ⟨L.drop 2, ?_⟩
  rw [List.drop_eq_getElem_cons h]
  simp [List.getD, h]
/-- What is read as a number is its encoding. -/
theorem decU_once {L : List Int} (hy : Byt L) (h : (decU L).2.2 = 0) : uintB (decU L).1.toNat = L.take (decU L).2.1.toNat := by
  have hc := hy.at_ 0
  unfold decU at h ⊢
  by_cases h0 : L.length = 0
  · rw [if_pos h0] at h; simp at h
  · rw [if_neg h0] at h ⊢
    have hl : L.take 1 = [L.getD 0 0] := by
      have := take_snoc L 0 (by omega)
      simpa using this
    by_cases h1 : L.getD 0 0 < 248
    · rw [if_pos h1]
      show uintB (L.getD 0 0).toNat = L.take 1
      rw [hl]
      unfold uintB
      rw [if_pos (by omega)]
      congr 1
      omega
    · rw [if_neg h1] at h ⊢
      by_cases h2 : (L.length : Int) < L.getD 0 0 - 246
      · rw [if_pos h2] at h; simp at h
      · rw [if_neg h2] at h ⊢
        obtain ⟨k, hk⟩ : ∃ k : Nat, L.getD 0 0 - 246 = ((k + 2 : Nat) : Int) := ⟨(L.getD 0 0 - 248).toNat, by omega⟩
        rw [hk] at h ⊢
        rw [Int.toNat_natCast] at h ⊢
        obtain ⟨R, hR⟩ := take_one_drop (L := L.take (k + 2)) (by simp; omega)
        have ht : (L.take (k + 2)).getD 1 0 = L.getD 1 0 := by simp [List.getD, List.getElem?_take]
        have hRl : R.length = k := by
          have := congrArg List.length hR
          simp at this
          omega
        rw [ht] at hR
        have hyD : Byt ((L.take (k + 2)).drop 1) := (hy.take _).drop 1
        split at h
        · simp at h
        · rename_i h3
          rw [if_neg h3]
          have hb := val_bd _ hyD
          have hlen : ((L.take (k + 2)).drop 1).length = k + 1 := by simp; omega
          rw [hlen] at hb
          have hv := val_cons (L.getD 1 0) R
          have hyR : Byt R := fun n hn => hyD n (by rw [hR]; exact List.mem_cons_of_mem _ hn)
          have hRb := val_bd R hyR
          have hc1 := hy.at_ 1
          rw [← hR, hRl] at hv
          have hbv := be_val _ hyD
          rw [hlen] at hbv
          have hlow : ((256 ^ k : Nat) : Int) ≤ val ((L.take (k + 2)).drop 1) := by
            have hp : (0 : Int) ≤ ((256 ^ k : Nat) : Int) := by omega
            have : 1 * ((256 ^ k : Nat) : Int) ≤ L.getD 1 0 * ((256 ^ k : Nat) : Int) := Int.mul_le_mul_of_nonneg_right (by omega) hp
            omega
          show uintB (val ((L.take (k + 2)).drop 1)).toNat = L.take (k + 2)
          have e1 : L.take (k + 2) = L.getD 0 0 :: (L.take (k + 2)).drop 1 := by
            have : L.take (k + 2) = (L.take (k + 2)).take 1 ++ (L.take (k + 2)).drop 1 := (List.take_append_drop 1 _).symm
            rw [List.take_take, Nat.min_eq_left (by omega), hl] at this
            exact this
          generalize hx : val ((L.take (k + 2)).drop 1) = x at *
          have hnb : nb x.toNat = k + 1 := nb_of (by omega) (by omega) (by omega) (by show 256 ^ k ≤ x.toNat; omega) (by omega)
          rw [e1]
          unfold uintB
          rw [if_neg (by omega), hnb, hbv]
          congr 1
          omega
theorem getD_app_lt {L M : List Int} {k : Nat} (h : k < L.length) : (L ++ M).getD k 0 = L.getD k 0 := by simp [List.getD, List.getElem?_append_left h]
theorem uintB_small {n : Nat} (h : n < 248) : uintB n = [(n : Int)] := by unfold uintB; rw [if_pos h]
theorem uintB_large {n : Nat} (h : ¬ n < 248) : uintB n = ((247 + nb n : Nat) : Int) :: be n (nb n) := by unfold uintB; rw [if_neg h]
theorem be_first {x k : Nat} (hk : 1 ≤ k) (h1 : 256 ^ (k - 1) ≤ x) (h2 : x < 256 ^ k) : (be x k).getD 0 0 ≠ 0 := by
  obtain ⟨j, rfl⟩ : ∃ j, k = j + 1 := ⟨k - 1, by omega⟩
  have h1 : 256 ^ j ≤ x := h1
  have e : (be x (j + 1)).getD 0 0 = ((x / 256 ^ j % 256 : Nat) : Int) := rfl
  rw [e]
  have hp : 0 < 256 ^ j := Nat.pow_pos (by decide)
  have hd : 1 ≤ x / 256 ^ j := (Nat.le_div_iff_mul_le hp).2 (by omega)
  have hu : x / 256 ^ j < 256 := (Nat.div_lt_iff_lt_mul hp).2 (by rw [Nat.mul_comm, ← Nat.pow_succ]; exact h2)
  rw [Nat.mod_eq_of_lt hu]
  omega
/-- What was encoded is read back, whatever follows. -/
theorem decU_back {n : Nat} (hn : n ≤ 4611686018427387904) (R : List Int) : decU (uintB n ++ R) = ((n : Int), ((uintB n).length : Int), 0) := by
  by_cases hs : n < 248
  · rw [uintB_small hs]
    unfold decU
    rw [if_neg (by simp), if_pos (by show (n : Int) < 248; omega)]
    rfl
  · obtain ⟨n1, n2, n3, n4⟩ := nb_bd n (by omega) (by omega)
    rw [uintB_large hs]
    have hf := be_first n1 n3 n4
    have hbl := be_len n (nb n)
    have hvb := val_be n (nb n) n4
    generalize nb n = k at *
    unfold decU
    have e0 : (((247 + k : Nat) : Int) :: be n k ++ R).getD 0 0 = ((247 + k : Nat) : Int) := rfl
    have e1 : (((247 + k : Nat) : Int) :: be n k ++ R).getD 1 0 = (be n k).getD 0 0 := by
      have : (((247 + k : Nat) : Int) :: be n k ++ R).getD 1 0 = (be n k ++ R).getD 0 0 := rfl
      rw [this, getD_app_lt (by omega)]
    have e2 : ((((247 + k : Nat) : Int) :: be n k ++ R).take (((247 + k : Nat) : Int) - 246).toNat).drop 1 = be n k := by
      have : (((247 + k : Nat) : Int) - 246).toNat = k + 1 := by omega
      rw [this]
      show ((((247 + k : Nat) : Int) :: (be n k ++ R)).take (k + 1)).drop 1 = be n k
      rw [List.take_succ_cons, List.drop_succ_cons, List.drop_zero]
      have := List.take_left' (l₂ := R) hbl
      exact this
    rw [e0, e1, e2, hvb]
    have hl : (((247 + k : Nat) : Int) :: be n k ++ R).length = k + 1 + R.length := by simp [hbl]; omega
    rw [hl, if_neg (by omega), if_neg (by omega), if_neg (by omega), if_neg (by intro h; rcases h with h | h | h; exact hf h; omega; omega)]
    have : ((((247 + k : Nat) : Int) :: be n k).length : Int) = ((247 + k : Nat) : Int) - 246 := by simp [hbl]; omega
    rw [this]
/-- A cut number. -/
theorem decU_cut {n k : Nat} (hn : n ≤ 4611686018427387904) (hk : k < (uintB n).length) : decU ((uintB n).take k) = (0, 0, 3) := by
  by_cases hk0 : k = 0
  · subst hk0; rfl
  · by_cases hs : n < 248
    · rw [uintB_small hs] at hk
      simp at hk; omega
    · obtain ⟨n1, n2, _, _⟩ := nb_bd n (by omega) (by omega)
      rw [uintB_large hs] at hk ⊢
      have hbl := be_len n (nb n)
      generalize nb n = m at *
      have hkm : k < m + 1 := by simpa [hbl] using hk
      have hl : ((((247 + m : Nat) : Int) :: be n m).take k).length = k := by simp [hbl]; omega
      have e0 : ((((247 + m : Nat) : Int) :: be n m).take k).getD 0 0 = ((247 + m : Nat) : Int) := by
        obtain ⟨j, rfl⟩ : ∃ j, k = j + 1 := ⟨k - 1, by omega⟩
        rfl
      unfold decU
      rw [hl, e0, if_neg hk0, if_neg (by omega), if_pos (by omega)]
theorem uintB_byt {n : Nat} (hn : n ≤ 4611686018427387904) : Byt (uintB n) := by
  by_cases hs : n < 248
  · rw [uintB_small hs]; exact Byt.cons (by omega) Byt.nil
  · obtain ⟨n1, n2, _, _⟩ := nb_bd n (by omega) (by omega)
    rw [uintB_large hs]
    exact Byt.cons (by omega) (be_byt _ _)
/-- A string, read back. -/
theorem decT_back {B : List Int} (hB : B.length ≤ 65536) (R : List Int) : decT (textB B ++ R) = (B, ((textB B).length : Int), 0) := by
  have e : textB B = uintB B.length ++ B := by unfold textB; rw [if_pos hB]
  have hd := decU_back (n := B.length) (by omega) (B ++ R)
  rw [e]
  unfold decT
  rw [List.append_assoc, hd]
  dsimp only
  rw [if_neg (by decide), if_neg (by omega), if_neg (by simp; omega)]
  have e1 : (((uintB B.length).length : Int) + (B.length : Int)).toNat = (uintB B.length).length + B.length := by omega
  rw [e1, Int.toNat_natCast, List.length_append]
  have : ((uintB B.length ++ (B ++ R)).take ((uintB B.length).length + B.length)).drop (uintB B.length).length = B := by
    rw [List.take_append, List.take_of_length_le (by omega), Nat.add_sub_cancel_left, List.take_left' rfl, List.drop_left' rfl]
  rw [this]
  rfl
theorem take_app {L M : List Int} (k : Nat) : (L ++ M).take k = if k < L.length then L.take k else L ++ M.take (k - L.length) := by
  rw [List.take_append]
  split
  · have : k - L.length = 0 := by omega
    rw [this, List.take_zero, List.append_nil]
  · rw [List.take_of_length_le (by omega)]
/-- A cut string. -/
theorem decT_cut {B : List Int} (hB : B.length ≤ 65536) {k : Nat} (hk : k < (textB B).length) : decT ((textB B).take k) = ([], 0, 3) := by
  have e : textB B = uintB B.length ++ B := by unfold textB; rw [if_pos hB]
  rw [e] at hk ⊢
  rw [take_app]
  split
  · rename_i h
    unfold decT
    rw [decU_cut (by omega) h]
    rfl
  · rename_i h
    have hd := decU_back (n := B.length) (by omega) (B.take (k - (uintB B.length).length))
    unfold decT
    rw [hd]
    dsimp only
    have hl : ((B.take (k - (uintB B.length).length)).length) < B.length := by simp at hk ⊢; omega
    rw [if_neg (by decide), if_neg (by omega), if_pos (by rw [List.length_append]; omega)]
/-- The encoding of a flag. -/
def flagN (s : Bool) : Nat := if s then 1 else 0
theorem k_uint (n : Nat) (hn : n ≤ 4611686018427387904) (w : World) :
    Calls Tryd.prog 78 #[.int .i64 n] w fun e w' => ∃ v, e = .returned (.tuple #[v, .int .i64 0]) ∧ Own w.heap.size (uintB n) v w' ∧ Below w.heap.size w w' := by
  have h := encUint_any n w (by omega) (by omega)
  unfold encE encB at h
  rw [if_pos (by omega), if_pos (by omega), Int.toNat_natCast] at h
  exact h
theorem uintB_flag (s : Bool) : uintB (flagN s) = [(flagN s : Int)] := by
  have hf : flagN s ≤ 1 := by unfold flagN; split <;> omega
  unfold uintB
  rw [if_pos (by omega)]
theorem flag_any (s : Bool) (w : World) :
    Calls Tryd.prog 60 #[.bool s] w fun e w' => ∃ v, e = .returned v ∧ Own w.heap.size (uintB (flagN s)) v w' ∧ Below w.heap.size w w' := by
  rw [uintB_flag]
  cases s
  · have hb := Own.one (c := 0) (by omega) w
    go_enter Tryd.func60, Tryd.ntmps60
    go_wp2
    go_ret
    exact ⟨_, rfl, hb, b1 _⟩
  · have hb := Own.one (c := 1) (by omega) w
    go_enter Tryd.func60, Tryd.ntmps60
    go_wp2
    go_ret
    exact ⟨_, rfl, hb, b1 _⟩
theorem Lone.set {a : Option Addr} {n cap g : Nat} (w : World) (j : Nat) (x : Value) (ha : a = some ⟨g, 0, none⟩) : Lone (.slice a n cap) w (w.setCell ⟨g, j, none⟩ x) := by
  subst ha
  exact ⟨by simp, fun k hk hne => Below.heap_setCell _ ⟨g, j, none⟩ _ _ (fun e => hne (by rw [e]; rfl))⟩
/-- The encodings of numbers, one after another. -/
def encL (M : List Int) : List Int := M.flatMap fun n => uintB n.toNat
theorem encL_app (A B : List Int) : encL (A ++ B) = encL A ++ encL B := by simp [encL]
theorem encL_one (n : Int) : encL [n] = uintB n.toNat := by simp [encL]
theorem encL_succ {M : List Int} {k : Nat} (h : k < M.length) : encL (M.take (k + 1)) = encL (M.take k) ++ uintB (M.getD k 0).toNat := by
  rw [take_snoc M k h, encL_app, encL_one]
/-- Numbers of a valid summary. -/
def Small9 (M : List Int) : Prop := ∀ n ∈ M, 0 ≤ n ∧ n ≤ 1099511627776
theorem Small9.at_ {M : List Int} (h : Small9 M) (k : Nat) : 0 ≤ M.getD k 0 ∧ M.getD k 0 ≤ 1099511627776 := by
  by_cases hk : k < M.length
  · have := h M[k] (List.getElem_mem hk)
    simpa [List.getD, hk] using this
  · have e : M.getD k 0 = 0 := by simp [List.getD, List.getElem?_eq_none (Nat.le_of_not_lt hk)]
    rw [e]; omega
theorem Small9.take {M : List Int} (h : Small9 M) (k : Nat) : Small9 (M.take k) := fun n hn => h n (List.mem_of_mem_take hn)
theorem encL_len : ∀ {M : List Int}, Small9 M → (encL M).length ≤ 9 * M.length
  | [], _ => by simp [encL]
  | n :: M, h => by
    have h1 := encL_len (M := M) (fun m hm => h m (List.mem_cons_of_mem _ hm))
    have h2 := (uintB_len n.toNat (by have := h n List.mem_cons_self; omega)).2
    rw [show encL (n :: M) = uintB n.toNat ++ encL M by simp [encL], List.length_append, List.length_cons]
    omega
theorem OwnI.five {a b c d e : Int} (ha : -9223372036854775808 ≤ a ∧ a ≤ 9223372036854775807) (hb : -9223372036854775808 ≤ b ∧ b ≤ 9223372036854775807) (hc : -9223372036854775808 ≤ c ∧ c ≤ 9223372036854775807) (hd : -9223372036854775808 ≤ d ∧ d ≤ 9223372036854775807) (he : -9223372036854775808 ≤ e ∧ e ≤ 9223372036854775807) (w : World) :
    OwnI w.heap.size [a, b, c, d, e] (.slice (some ⟨w.heap.size, 0, none⟩) 5 5) (w.alloc (.cells #[.int .i64 a, .int .i64 b, .int .i64 c, .int .i64 d, .int .i64 e] 3)) :=
  ⟨fun n hn => by simp at hn; rcases hn with rfl | rfl | rfl | rfl | rfl <;> assumption, rfl, .inr ⟨w.heap.size, 5, #[.int .i64 a, .int .i64 b, .int .i64 c, .int .i64 d, .int .i64 e], rfl, Nat.le_refl _, Go.heap_alloc_new w _, Nat.le_refl _, by decide, rfl, rfl⟩⟩
theorem OwnI.sole {a : Int} (ha : -9223372036854775808 ≤ a ∧ a ≤ 9223372036854775807) (w : World) :
    OwnI w.heap.size [a] (.slice (some ⟨w.heap.size, 0, none⟩) 1 1) (w.alloc (.cells #[.int .i64 a] 3)) :=
  ⟨fun n hn => by simp at hn; subst hn; assumption, rfl, .inr ⟨w.heap.size, 1, #[.int .i64 a], rfl, Nat.le_refl _, Go.heap_alloc_new w _, Nat.le_refl _, by decide, rfl, rfl⟩⟩
/-- append, onto bytes of the call's own: just its own row turns. -/
theorem wp_appL8 {w : World} {ops : Array Oper} {rest : List Oper} {o : Oper} {a : Act} {Q : Exit → Act → World → Prop} (hgd : o.guard = none) (s x : Operand) (tx : TypeId)
    (ho : o.op = .call { callee := .builtin .append, args := #[s, x], argTypes := #[23, tx] }) (B : Nat) (L M : List Int) (v u : Value) (hs : a.eval s = v) (hx : a.eval x = u)
    (hown : Own B L v w) (hsrc : From M tx u w) (hB : B ≤ w.heap.size) (hn : L.length + M.length ≤ 140737488355328)
    (h : ∀ v' w', Own B (L ++ M) v' w' → Below B w w' → Lone v w w' → wpList Tryd.prog ops Q rest (a.put o.dst v') w') : wpList Tryd.prog ops Q (o :: rest) a w := by
  obtain ⟨i0, hi, hz0, hz1, hz2⟩ := info_parts info_u8
  refine wpList_own_src w hgd s x 23 tx ho B 5 i0 (.int .u8 0) 1 1 Tryd.underlying23 hi hz0 hz1 hz2 rfl (by decide) v L.length (cells8 L) hs hown.2 u M.length (cells8 M) hx hsrc.2 (by unfold maxLen; omega) (by omega) hB ?_
  intro v' w' h1 h2
  have hb := (Below.refl B w).grown h2 hB (fun k hk => (World.ownsRow.lt hown.2 k hk).1)
  refine h v' w' ⟨hown.1.app hsrc.1, ?_⟩ hb ⟨hb.size, fun g hg hne => h2.block g hg (Ne.symm hne)⟩
  rw [List.length_append, cells8_app]
  exact h1
theorem OwnI.lone {B B' : Nat} {M L : List Int} {u v : Value} {w w' : World} (h : OwnI B M u w) (ho : Own B' L v w) (hl : Lone v w w') : OwnI B M u w' := ⟨h.1, row_lone h.2 ho.2 (by decide) hl⟩
set_option maxRecDepth 100000 in
set_option maxHeartbeats 1000000 in
theorem auints9_any (B B2 : Nat) (A M : List Int) (v u : Value) (w : World) (ho : Own B A v w) (hu : OwnI B2 M u w) (hM : Small9 M) (hB : B ≤ w.heap.size) (hA : A.length ≤ 10000000) (hm : M.length ≤ 1000) :
    Calls Tryd.prog 57 #[v, u] w fun e w' => ∃ v', e = .returned v' ∧ Own B (A ++ encL M) v' w' ∧ Below B w w' := by
  obtain ⟨a, cap, rfl⟩ := hu.rd.shape
  have HM := Lib.hid hM
  have HS := Lib.hid (fun k (h : k < M.length) => encL_succ h)
  have HT := Lib.hid (show M.take M.length = M from List.take_length)
  have HI0 : Hid (Own B (A ++ encL (M.take 0)) v w ∧ OwnI B2 M (.slice a M.length cap) w ∧ Below B w w) := Lib.hid ⟨by rw [List.take_zero]; simpa [encL] using ho, hu, Below.refl _ _⟩
  have HB := Lib.hid hB
  clear hu hM ho hB
  go_enter Tryd.func57, Tryd.ntmps57
  go_wp2
  go_loopw [0, 6, 7, 8, 11] (fun b _ _ _ i wr => ∃ k : Nat, k ≤ M.length ∧ i = .int .i64 (k : Int) ∧ Hid (Own B (A ++ encL (M.take k)) b wr ∧ OwnI B2 M (.slice a M.length cap) wr ∧ Below B w wr)) (fun _ _ _ _ i _ => M.length - (intOf i).toNat)
  case atStart => exact ⟨0, by omega, rfl, HI0⟩
  case round =>
    clear HI0
    obtain ⟨k, hk, rfl, HI⟩ := hrel
    by_cases hlt : k < M.length
    · obtain ⟨g, rfl, -, -, hc, -⟩ := HI.out.2.1.cells (by omega)
      have hck := (hc k hlt).1
      have hlt2 : (k : Int) < (M.length : Int) := by omega
      have hmI : (M.length : Int) ≤ 1000 := by omega
      have hz := HM.out.at_ k
      have hel := encL_len (HM.out.take k)
      have hsl : (M.take k).length ≤ 1000 := by rw [List.length_take]; omega
      have HSS := Lib.hid (HS.out k hlt)
      obtain ⟨z, hz1⟩ : ∃ z : Nat, M.getD k 0 = (z : Int) := ⟨(M.getD k 0).toNat, by omega⟩
      rw [hz1] at hck hz HSS
      rw [Int.toNat_natCast] at HSS
      have HE := Lib.hid (fun w => k_uint z (by omega) w)
      have hzl := (uintB_len z (by omega)).2
      have HLN : Hid ((A ++ encL (M.take k)).length + (uintB z).length ≤ 140737488355328) := Lib.hid (by rw [List.length_append]; omega)
      have HO := Lib.hid HI.out.1
      have HN := Lib.hid HI.out.2.1
      have HBW := Lib.hid HI.out.2.2
      have HWS := Lib.hid (Nat.le_trans HB.out HBW.out.size)
      clear hz1 HS hc HI hz hel hsl hzl
      generalize uintB z = Z at *
      go_wp2_with (first
        | (go_at_call 78; (with_reducible refine (HE.out _).mono ?_); rintro e w3 ⟨v3, rfl, ho3, hb3⟩; have HO3 := Lib.hid (HO.out.below hb3); have HN3 := Lib.hid (HN.out.below hb3); have HR3 := Lib.hid ho3.rd.src; have HS3 := Lib.hid (Nat.le_trans HWS.out hb3.size); have HB3 := Lib.hid (HBW.out.trans (hb3.mono HWS.out)); clear ho3 hb3)
        | (at_builtin; refine wp_appL8 rfl _ _ _ rfl B (A ++ encL (M.take k)) Z _ _ rfl rfl HO3.out HR3.out HS3.out HLN.out ?_; (intro v4 w4 ho4 hb4 hl4; have HO4 : Hid (Own B (A ++ encL (M.take (k + 1))) v4 w4) := Lib.hid (by rw [HSS.out, ← List.append_assoc]; exact ho4); have HN4 := Lib.hid (HN3.out.lone HO3.out hl4); have HB4 := Lib.hid (HB3.out.trans hb4); clear ho4 hb4 hl4 HO3 HN3 HR3 HS3 HB3)))
      exact ⟨⟨k + 1, by omega, by go_num, Lib.hid ⟨HO4.out, HN4.out, HB4.out⟩⟩, by simp [intOf]; omega⟩
    · obtain rfl : k = M.length := by omega
      have hnlt : ¬ (M.length : Int) < (M.length : Int) := by omega
      have HO := Lib.hid HI.out.1
      have HB2 := Lib.hid HI.out.2.2
      rw [HT.out] at HO
      clear HI
      go_wp2
      go_ret
      exact ⟨_, rfl, HO.out, HB2.out⟩
/-- A reader in memory: what is left, whether something was wrong. -/
def PSt (g : Nat) (v : Value) (f : Bool) (w : World) : Prop :=
  (w.cell? ⟨g, 0, none⟩ = some v ∧ w.cell? ⟨g, 1, none⟩ = some (.bool f)) ∧ w.frozen? ⟨g, 0, none⟩ = false ∧ w.frozen? ⟨g, 1, none⟩ = false
theorem PSt.keep {g : Nat} {v : Value} {f : Bool} {w w' : World} (h : PSt g v f w) (hb : w'.heap[g]? = w.heap[g]?) : PSt g v f w' := by
  obtain ⟨⟨h0, h1⟩, f0, f1⟩ := h
  exact ⟨⟨(World.cell?_of_block (w := w) (a := ⟨g, 0, none⟩) hb).trans h0, (World.cell?_of_block (w := w) (a := ⟨g, 1, none⟩) hb).trans h1⟩, (World.frozen?_of_block (w := w) (a := ⟨g, 0, none⟩) hb).trans f0, (World.frozen?_of_block (w := w) (a := ⟨g, 1, none⟩) hb).trans f1⟩
theorem PSt.below {g : Nat} {v : Value} {f : Bool} {w w' : World} (h : PSt g v f w) {B : Nat} (hb : Below B w w') (hg : g < B) : PSt g v f w' := h.keep (hb.block g hg)
theorem PSt.size {g : Nat} {v : Value} {f : Bool} {w : World} (h : PSt g v f w) : g < w.heap.size := block_lt_of_cell h.1.1
theorem PSt.far {g : Nat} {v : Value} {f : Bool} {w : World} (h : PSt g v f w) {b : Nat} (hb : g ≠ b) (o : Nat) (u : Value) : PSt g v f (w.setCell ⟨b, o, none⟩ u) :=
  h.keep (Below.heap_setCell w ⟨b, o, none⟩ u g hb)
theorem PSt.set {g : Nat} {v : Value} {f : Bool} {w : World} (h : PSt g v f w) (a : Option Addr) (n c : Nat) (t : Bool) : PSt g (.slice a n c) t ((w.setCell ⟨g, 0, none⟩ (.slice a n c)).setCell ⟨g, 1, none⟩ (.bool t)) := by
  obtain ⟨⟨h0, h1⟩, f0, f1⟩ := h
  exact ⟨⟨by go_simp, by go_simp⟩, by go_simp, by go_simp⟩
theorem tlV_shape {L : List Int} {v : Value} {w : World} (h : Rd L v w) (k : Nat) (hk : k ≤ L.length) : ∃ a n c, tlV v k = .slice a n c := by
  obtain ⟨_, a, c, h', _⟩ := (h.tl k hk)
  exact ⟨a, _, c, h'⟩
/-- Bounds on what is read as a string. -/
theorem decT_bd {L : List Int} (hy : Byt L) : 0 ≤ (decT L).2.1 ∧ (decT L).2.1 ≤ L.length ∧ (decT L).1.length ≤ 65536 := by
  obtain ⟨b0, b1, b2, b3, b4, b5, b6, b7⟩ := decU_bd hy
  unfold decT
  split
  · simp
  · split
    · simp
    · split
      · simp
      · simp only [List.length_drop, List.length_take]
        omega
/-- What follows a string. -/
def restT (L : List Int) : List Int := L.drop (decT L).2.1.toNat
set_option maxRecDepth 100000 in
theorem skip_any (g : Nat) (R : List Int) (v : Value) (f : Bool) (j : Nat) (E : Int) (w W : World) (h : Rd R v W) (hj : j ≤ R.length) (hp : PSt g v f w) :
    Calls Tryd.prog 81 #[.pointer (some ⟨g, 0, none⟩), .int .i64 j, .int .i64 E] w fun e w' =>
      e = .returned (.tuple #[]) ∧ w' = (w.setCell ⟨g, 0, none⟩ (tlV v j)).setCell ⟨g, 1, none⟩ (.bool (f || E != 0)) := by
  have hr := fun w => tlV_run h j hj w
  obtain ⟨a, n, c, hv⟩ := tlV_shape h j hj
  rw [hv] at hr ⊢
  obtain ⟨⟨c0, c1⟩, f0, f1⟩ := hp
  clear h hj hv
  cases f
  all_goals
    go_enter Tryd.func81, Tryd.ntmps81
    go_wp2
    refine bodyPost_end (v := .tuple #[]) (by simp [results, Tryd.results81, go_sem]) rfl ⟨rfl, ?_⟩
    rfl
set_option maxRecDepth 100000 in
theorem pnum_any (g : Nat) (R : List Int) (v : Value) (f : Bool) (w W : World) (h : Rd R v W) (hb : Below W.heap.size W w) (hp : PSt g v f w) :
    Calls Tryd.prog 62 #[.pointer (some ⟨g, 0, none⟩)] w fun e w' =>
      e = .returned (.int .i64 (decU R).1) ∧ w' = (w.setCell ⟨g, 0, none⟩ (tlV v (decU R).2.1.toNat)).setCell ⟨g, 1, none⟩ (.bool (f || (decU R).2.2 != 0)) := by
  obtain ⟨b0, b1, b2, b3, b4, b5, b6, b7⟩ := decU_bd h.1
  have hd := decUint_any R v w (h.below hb)
  have hs := skip_any g R v f (decU R).2.1.toNat (decU R).2.2 w W h (by omega) hp
  have hju : (((decU R).2.1.toNat : Nat) : Int) = (decU R).2.1 := by omega
  rw [hju] at hs
  obtain ⟨⟨c0, c1⟩, f0, f1⟩ := hp
  obtain ⟨a, n, c, rfl⟩ : ∃ a n c, v = .slice a n c := by
    obtain ⟨_, a, c, h', _⟩ := h
    exact ⟨a, _, c, h'⟩
  clear h hb hju b0 b1 b2 b3 b4 b5 b6 b7
  generalize tlV (.slice a n c) (decU R).2.1.toNat = u at *
  generalize (decU R).1 = x at *
  generalize (decU R).2.1 = y at *
  generalize (decU R).2.2 = z at *
  go_enter Tryd.func62, Tryd.ntmps62
  go_wp2_with (first
    | (go_at_call 80; refine hd.mono ?_; rintro e w' ⟨rfl, rfl⟩)
    | (go_at_call 81; refine hs.mono ?_; rintro e w' ⟨rfl, rfl⟩))
  go_ret
  exact ⟨rfl, rfl⟩
set_option maxRecDepth 100000 in
theorem ptxt_any (g : Nat) (R : List Int) (v : Value) (f : Bool) (w W : World) (h : Rd R v W) (hb : Below W.heap.size W w) (hp : PSt g v f w) :
    Calls Tryd.prog 82 #[.pointer (some ⟨g, 0, none⟩)] w fun e w' =>
      e = .returned (.string (strOfNums (decT R).1)) ∧ w' = (w.setCell ⟨g, 0, none⟩ (tlV v (decT R).2.1.toNat)).setCell ⟨g, 1, none⟩ (.bool (f || (decT R).2.2 != 0)) := by
  obtain ⟨b2, b3, b4⟩ := decT_bd h.1
  have hd := decText_any R v w (h.below hb)
  have hs := skip_any g R v f (decT R).2.1.toNat (decT R).2.2 w W h (by omega) hp
  have hju : (((decT R).2.1.toNat : Nat) : Int) = (decT R).2.1 := by omega
  rw [hju] at hs
  obtain ⟨⟨c0, c1⟩, f0, f1⟩ := hp
  obtain ⟨a, n, c, rfl⟩ : ∃ a n c, v = .slice a n c := by
    obtain ⟨_, a, c, h', _⟩ := h
    exact ⟨a, _, c, h'⟩
  clear h hb hju b2 b3 b4
  generalize tlV (.slice a n c) (decT R).2.1.toNat = u at *
  generalize strOfNums (decT R).1 = x at *
  generalize (decT R).2.1 = y at *
  generalize (decT R).2.2 = z at *
  go_enter Tryd.func82, Tryd.ntmps82
  go_wp2_with (first
    | (go_at_call 103; refine hd.mono ?_; rintro e w' ⟨rfl, rfl⟩)
    | (go_at_call 81; refine hs.mono ?_; rintro e w' ⟨rfl, rfl⟩))
  go_ret
  exact ⟨rfl, rfl⟩
/-- A reader at the bytes R, as they lay in the world W. -/
def DS (W : World) (g : Nat) (R : List Int) (f : Bool) (w : World) : Prop := ∃ v, PSt g v f w ∧ Rd R v W
theorem DS.keep {W : World} {g : Nat} {R : List Int} {f : Bool} {w w' : World} (h : DS W g R f w) (hb : w'.heap[g]? = w.heap[g]?) : DS W g R f w' := by
  obtain ⟨v, h1, h2⟩ := h
  exact ⟨v, h1.keep hb, h2⟩
theorem DS.size {W : World} {g : Nat} {R : List Int} {f : Bool} {w : World} (h : DS W g R f w) : g < w.heap.size := by
  obtain ⟨v, h1, h2⟩ := h
  exact h1.size
theorem DS.byt {W : World} {g : Nat} {R : List Int} {f : Bool} {w : World} (h : DS W g R f w) : Byt R := by
  obtain ⟨v, h1, h2⟩ := h
  exact h2.1
theorem dnum_any {W : World} {g : Nat} {R : List Int} {f : Bool} {w : World} (h : DS W g R f w) (hb : Below W.heap.size W w) :
    Calls Tryd.prog 62 #[.pointer (some ⟨g, 0, none⟩)] w fun e w' =>
      e = .returned (.int .i64 (decU R).1) ∧ DS W g (restU R) (f || (decU R).2.2 != 0) w' ∧ Oth g w w' := by
  obtain ⟨v, h1, h2⟩ := h
  have hj : (decU R).2.1.toNat ≤ R.length := by have := decU_bd h2.1; omega
  refine (pnum_any g R v f w W h2 hb h1).mono ?_
  rintro e w' ⟨rfl, rfl⟩
  obtain ⟨a, n, c, hv⟩ := tlV_shape h2 _ hj
  refine ⟨rfl, ⟨tlV v (decU R).2.1.toNat, ?_, h2.tl _ hj⟩, Oth.two _ _ _ _⟩
  rw [hv]
  exact h1.set a n c _
theorem dtxt_any {W : World} {g : Nat} {R : List Int} {f : Bool} {w : World} (h : DS W g R f w) (hb : Below W.heap.size W w) :
    Calls Tryd.prog 82 #[.pointer (some ⟨g, 0, none⟩)] w fun e w' =>
      e = .returned (.string (strOfNums (decT R).1)) ∧ DS W g (restT R) (f || (decT R).2.2 != 0) w' ∧ Oth g w w' := by
  obtain ⟨v, h1, h2⟩ := h
  have hj : (decT R).2.1.toNat ≤ R.length := by have := decT_bd h2.1; omega
  refine (ptxt_any g R v f w W h2 hb h1).mono ?_
  rintro e w' ⟨rfl, rfl⟩
  obtain ⟨a, n, c, hv⟩ := tlV_shape h2 _ hj
  refine ⟨rfl, ⟨tlV v (decT R).2.1.toNat, ?_, h2.tl _ hj⟩, Oth.two _ _ _ _⟩
  rw [hv]
  exact h1.set a n c _
/-- Keys one after another; a level; levels. -/
def keysB (l : List ByteArray) : List Int := l.flatMap fun x => textB (byt x)
def levB (l : List ByteArray) : List Int := uintB l.length ++ keysB l
def levsB (L : List (List ByteArray)) : List Int := L.flatMap levB
def hdR (S T K : Int) (s : Bool) (n : Nat) : List Int := uintB S.toNat ++ uintB T.toNat ++ uintB K.toNat ++ uintB (flagN s) ++ uintB n
/-- The encoding of a summary. -/
def codR (t : RK) : List Int := if valR t.S t.T t.K t.L = 0 then hdR t.S t.T t.K t.s t.L.length ++ levsB t.L else []
theorem keysB_nil : keysB [] = [] := rfl
theorem levsB_nil : levsB [] = [] := rfl
theorem keysB_succ {l : List ByteArray} {j : Nat} (h : j < l.length) : keysB (l.take (j + 1)) = keysB (l.take j) ++ textB (byt (l.getD j ByteArray.empty)) := by
  rw [take_getD (d := ByteArray.empty) h]
  simp [keysB]
theorem levsB_succ {L : List (List ByteArray)} {j : Nat} (h : j < L.length) : levsB (L.take (j + 1)) = levsB (L.take j) ++ levB (L.getD j []) := by
  rw [take_getD (d := []) h]
  simp [levsB]
theorem keyK_len {x : ByteArray} (h : keyB (byt x) = true) : (byt x).length ≤ 32 := by
  unfold keyB at h
  simp only [Bool.and_eq_true, decide_eq_true_eq] at h
  omega
theorem textK_len {x : ByteArray} (h : keyB (byt x) = true) : (textB (byt x)).length ≤ 41 := by
  have hk := keyK_len h
  have h1 := (uintB_len (byt x).length (by omega)).2
  unfold textB
  rw [if_pos (by omega), List.length_append]
  omega
theorem keysB_len : ∀ {l : List ByteArray}, (∀ x ∈ l, keyB (byt x) = true) → (keysB l).length ≤ 41 * l.length
  | [], _ => by simp [keysB]
  | x :: l, h => by
    have h1 := keysB_len (l := l) (fun y hy => h y (List.mem_cons_of_mem _ hy))
    have h2 := textK_len (h x List.mem_cons_self)
    rw [show keysB (x :: l) = textB (byt x) ++ keysB l by simp [keysB], List.length_append, List.length_cons]
    omega
theorem levB_len {l : List ByteArray} (h : ∀ x ∈ l, keyB (byt x) = true) (hl : l.length ≤ 31) : (levB l).length ≤ 1300 := by
  have h1 := keysB_len h
  have h2 := (uintB_len l.length (by omega)).2
  unfold levB
  rw [List.length_append]
  omega
theorem levsB_len : ∀ {L : List (List ByteArray)}, (∀ l ∈ L, (∀ x ∈ l, keyB (byt x) = true) ∧ l.length ≤ 31) → (levsB L).length ≤ 1300 * L.length
  | [], _ => by simp [levsB]
  | l :: L, h => by
    have h1 := levsB_len (L := L) (fun y hy => h y (List.mem_cons_of_mem _ hy))
    have h2 := levB_len (h l List.mem_cons_self).1 (h l List.mem_cons_self).2
    rw [show levsB (l :: L) = levB l ++ levsB L by simp [levsB], List.length_append, List.length_cons]
    omega
theorem ValR.lev_ok {S T K : Int} {L : List (List ByteArray)} (h : ValR S T K L) : ∀ l ∈ L, (∀ x ∈ l, keyB (byt x) = true) ∧ l.length ≤ 31 := fun l hl => ⟨(h.lv l hl).2.1, h.rows l hl⟩
set_option maxRecDepth 100000 in
set_option maxHeartbeats 4000000 in
theorem pencR_any (S T K : Int) (L : List (List ByteArray)) (s : Bool) (a : Option Addr) (n cap : Nat) (w : World) (hr : RdL L (.slice a n cap) w) (hk : LOk L) :
    Calls Tryd.prog 29 #[.agg #[.int .i64 S, .int .i64 T, .int .i64 K, .slice a n cap, .bool s]] w fun e w' => ∃ v, e = .returned (.tuple #[v, .int .i64 (valR S T K L)]) ∧ Own w.heap.size (codR ⟨S, T, K, L, s⟩) v w' ∧ Below w.heap.size w w' := by
  obtain ⟨a', cap', he⟩ := hr.shape
  simp only [Value.slice.injEq] at he
  obtain ⟨rfl, rfl, rfl⟩ := he
  have HR := Lib.hid hr
  have HV := Lib.hid (fun (w' : World) (hb : Below w.heap.size w w') => pvalR_any S T K L s a L.length cap w' (hr.below hb) hk)
  have C0 := Lib.hid (RsS.new S T K (.slice a L.length cap) s 28 w)
  have B0 := Lib.hid (b1 (a := w) (.cells #[.int .i64 S, .int .i64 T, .int .i64 K, .slice a L.length cap, .bool s] 28))
  clear hr hk
  unfold codR
  dsimp only
  by_cases hE : valR S T K L = 0
  · rw [if_pos hE]
    have hval := valR_ok hE
    rw [hE] at HV ⊢
    have hs0 := hval.s0
    have hs1 := hval.s1
    have ht0 := hval.t0
    have ht1 := hval.t1
    have hk0 := hval.k0
    have hk1 := hval.k1
    have hnl := hval.nl
    have hall := hval.lev_ok
    have HLV := Lib.hid (fun i => getD_all (p := fun l => (∀ x ∈ l, keyB (byt x) = true) ∧ l.length ≤ 31) hall (by simp) i)
    have HBL := Lib.hid (fun k => levsB_len (L := L.take k) (fun x hx => hall x (List.mem_of_mem_take hx)))
    have HSU := Lib.hid (fun k (h : k < L.length) => levsB_succ h)
    have HT := Lib.hid (show L.take L.length = L from List.take_length)
    have hhd : (hdR S T K s L.length).length ≤ 50 := by
      unfold hdR
      have h1 := (uintB_len S.toNat (by omega)).2
      have h2 := (uintB_len T.toNat (by omega)).2
      have h5 := (uintB_len K.toNat (by omega)).2
      have h3 := (uintB_len (flagN s) (by unfold flagN; split <;> omega)).2
      have h4 := (uintB_len L.length (by omega)).2
      simp only [List.length_append]
      omega
    have HHD : Hid (∀ f : Int, f = (flagN s : Int) → encL [S, T, K, f, (L.length : Int)] = hdR S T K s L.length) := Lib.hid (fun f hf => by subst hf; simp [encL, hdR])
    obtain ⟨hd, hhde⟩ : ∃ hd, hd = hdR S T K s L.length := ⟨_, rfl⟩
    rw [← hhde] at hhd HHD ⊢
    have HHL := Lib.hid hhd
    clear hE hval hall hhd hhde
    cases s
    · have HHE : Hid (encL [S, T, K, 0, (L.length : Int)] = hd) := Lib.hid (HHD.out 0 (by decide))
      clear HHD
      go_enter Tryd.func29, Tryd.ntmps29
      go_wp2_with (go_at_call 20; (with_reducible refine (HV.out _ B0.out).mono ?_); rintro e w2 ⟨rfl, hb2⟩; have B2 := Lib.hid (bgo B0.out hb2); have C2 := Lib.hid (C0.out.go hb2); obtain ⟨⟨p0, p1, p2, p3, p4⟩, -⟩ := C2.out; clear hb2)
      have N2 := Lib.hid (OwnI.five (a := S) (b := T) (c := K) (d := 0) (e := (L.length : Int)) (by omega) (by omega) (by omega) (by omega) (by omega) w2)
      have Z2 : Hid (w.heap.size + 1 ≤ (w2.alloc (.cells #[.int .i64 S, .int .i64 T, .int .i64 K, .int .i64 0, .int .i64 (L.length : Int)] 3)).heap.size) := Lib.hid (by have := C2.out.lt; simp; omega)
      have M2 : Hid (Small9 [S, T, K, 0, (L.length : Int)]) := Lib.hid (fun n hn => by simp at hn; omega)
      go_at_call 57
      refine (auints9_any (w.heap.size + 1) w2.heap.size [] [S, T, K, 0, (L.length : Int)] _ _ _ (Own.empty _ _) N2.out M2.out Z2.out (by simp) (by simp)).mono ?_
      rintro e w3 ⟨v3, rfl, ho3, hb3⟩
      rw [List.nil_append, HHE.out] at ho3
      have C3 := Lib.hid ((C2.out.go (b1 (.cells #[.int .i64 S, .int .i64 T, .int .i64 K, .int .i64 0, .int .i64 (L.length : Int)] 3))).below hb3 (Nat.lt_succ_self _))
      have B3 := Lib.hid ((bal B2.out (.cells #[.int .i64 S, .int .i64 T, .int .i64 K, .int .i64 0, .int .i64 (L.length : Int)] 3)).trans (hb3.mono (Nat.le_succ _)))
      have HI : Hid (Own (w.heap.size + 1) (hd ++ levsB (L.take 0)) v3 w3 ∧ RsS w.heap.size S T K (.slice a L.length cap) false w3 ∧ Below w.heap.size w w3) := Lib.hid ⟨by rw [List.take_zero, levsB_nil, List.append_nil]; exact ho3, C3.out, B3.out⟩
      clear ho3 hb3 N2 Z2 M2 B2 C2 p0 p1 p2 p3 p4 HV C0 B0
      obtain ⟨⟨p0, p1, p2, p3, p4⟩, -⟩ := C3.out
      go_wp2
      clear p0 p1 p2 p3 p4 C3 B3
      go_loopw [6, 8, 10, 11, 12, 35] (fun b _ _ _ _ i wr => ∃ k : Nat, k ≤ L.length ∧ i = .int .i64 (k : Int) ∧ Hid (Own (w.heap.size + 1) (hd ++ levsB (L.take k)) b wr ∧ RsS w.heap.size S T K (.slice a L.length cap) false wr ∧ Below w.heap.size w wr)) (fun _ _ _ _ _ i _ => L.length - (intOf i).toNat)
      case atStart => exact ⟨0, by omega, rfl, HI⟩
      case round =>
        clear HI
        obtain ⟨k, hk, rfl, HI⟩ := hrel
        by_cases hlt : k < L.length
        · have hlt2 : (k : Int) < (L.length : Int) := by omega
          obtain ⟨b', o', u, m, c', rfl, -, hb', hc0, hr, hm⟩ := HR.out.at_ hlt
          have hc := ((bcell HI.out.2.2).1 b' (o' + k) hb').trans hc0
          have hlv := HLV.out k
          have hbl := HBL.out k
          have hkl : (L.take k).length ≤ 41 := by rw [List.length_take]; omega
          have HSS := Lib.hid (HSU.out k hlt)
          have hhl := HHL.out
          clear hc0 hb'
          subst hm
          generalize L.getD k [] = l at *
          have HRow := Lib.hid hr
          have HKY := Lib.hid hlv.1
          have hl31 := hlv.2
          clear hr hlv
          obtain ⟨A, hA⟩ : ∃ A, A = hd ++ levsB (L.take k) := ⟨_, rfl⟩
          have HA := Lib.hid hA
          have HLA : Hid (A.length ≤ 60000) := Lib.hid (by rw [hA, List.length_append]; omega)
          have N5 := Lib.hid (OwnI.sole (a := (l.length : Int)) (by omega) wr)
          have Z5 : Hid (w.heap.size + 1 ≤ (wr.alloc (.cells #[.int .i64 (l.length : Int)] 3)).heap.size) := Lib.hid (by have := HI.out.2.1.lt; simp; omega)
          have M5 : Hid (Small9 [(l.length : Int)]) := Lib.hid (fun n hn => by simp at hn; omega)
          have ho5 := HI.out.1
          rw [← hA] at ho5
          have O5 := Lib.hid ho5
          have C5 := Lib.hid HI.out.2.1
          have B5 := Lib.hid HI.out.2.2
          clear HI ho5 hA hbl hhl hkl
          go_wp2_with (fail)
          go_at_call 57
          refine (auints9_any (w.heap.size + 1) wr.heap.size A [(l.length : Int)] _ _ _ (O5.out.alloc _) N5.out M5.out Z5.out (by have := HLA.out; omega) (by simp)).mono ?_
          rintro e w6 ⟨v6, rfl, ho6, hb6⟩
          rw [encL_one, Int.toNat_natCast] at ho6
          have HI2 : Hid (Own (w.heap.size + 1) (A ++ uintB l.length ++ keysB (l.take 0)) v6 w6 ∧ RsS w.heap.size S T K (.slice (some ⟨b', o', none⟩) L.length cap) false w6 ∧ Below w.heap.size w w6) := Lib.hid ⟨by rw [List.take_zero, keysB_nil, List.append_nil]; exact ho6, (C5.out.go (b1 _)).below hb6 (Nat.lt_succ_self _), (bal B5.out (.cells #[.int .i64 (l.length : Int)] 3)).trans (hb6.mono (Nat.le_succ _))⟩
          clear ho6 hb6 N5 Z5 M5 O5 C5 B5 hc
          go_wp2
          go_loopw [6, 10, 11, 12, 46] (fun b _ _ _ i wr2 => ∃ q : Nat, q ≤ l.length ∧ i = .int .i64 (q : Int) ∧ Hid (Own (w.heap.size + 1) (A ++ uintB l.length ++ keysB (l.take q)) b wr2 ∧ RsS w.heap.size S T K (.slice (some ⟨b', o', none⟩) L.length cap) false wr2 ∧ Below w.heap.size w wr2)) (fun _ _ _ _ i _ => l.length - (intOf i).toNat)
          case atStart => exact ⟨0, by omega, rfl, HI2⟩
          case round =>
            clear HI2
            obtain ⟨q, hq, rfl, HI2⟩ := hrel
            by_cases hlq : q < l.length
            · have hlq2 : (q : Int) < (l.length : Int) := by omega
              obtain ⟨b3, o3, rfl, -, hd1⟩ := (HRow.out.below HI2.out.2.2).cell hlq
              have HKS := Lib.hid (keysB_succ hlq)
              have hkey := HKY.out _ (getD_mem (d := ByteArray.empty) hlq)
              have hla := HLA.out
              have hkb := keysB_len (l := l.take q) (fun x hx => HKY.out x (List.mem_of_mem_take hx))
              have hlq3 : (l.take q).length ≤ 31 := by rw [List.length_take]; omega
              have hul := (uintB_len l.length (by omega)).2
              generalize l.getD q ByteArray.empty = X at *
              have hte : textE (byt X) = 0 := by unfold textE; rw [if_pos (by have := keyK_len hkey; omega)]
              have htx := textK_len hkey
              have HTX := Lib.hid (fun w => encText_any X w (key_size hkey))
              rw [hte] at HTX
              have HLN : Hid ((A ++ uintB l.length ++ keysB (l.take q)).length + (textB (byt X)).length ≤ 140737488355328) := Lib.hid (by rw [List.length_append, List.length_append]; omega)
              generalize textB (byt X) = TB at *
              have O1 := Lib.hid HI2.out.1
              have C1 := Lib.hid HI2.out.2.1
              have B1 := Lib.hid HI2.out.2.2
              clear HI2 hkb hlq3 hul hte htx hkey hla
              go_wp2_with (first
                | (go_at_call 58; (with_reducible refine (HTX.out _).mono ?_); rintro e w4 ⟨v4, rfl, ho4, hb4⟩; have O4 := Lib.hid (O1.out.below hb4); have R4 := Lib.hid ho4.rd.src; have C4 := Lib.hid (C1.out.go hb4); have B4 := Lib.hid (bgo B1.out hb4); have Z4 : Hid (w.heap.size + 1 ≤ w4.heap.size) := Lib.hid C4.out.lt; clear ho4 hb4 O1 C1 B1)
                | (at_builtin; refine wp_appL8 rfl _ _ _ rfl (w.heap.size + 1) (A ++ uintB l.length ++ keysB (l.take q)) TB _ _ rfl rfl O4.out R4.out Z4.out HLN.out ?_; (intro v5 w5 ho5 hb5 hl5; have O5 : Hid (Own (w.heap.size + 1) (A ++ uintB l.length ++ keysB (l.take (q + 1))) v5 w5) := Lib.hid (by rw [HKS.out]; simpa only [List.append_assoc] using ho5); have C5 := Lib.hid (C4.out.below hb5 (Nat.lt_succ_self _)); have B5 := Lib.hid (B4.out.trans (hb5.mono (Nat.le_succ _))); clear ho5 hb5 hl5)))
              exact ⟨⟨q + 1, by omega, by go_num, Lib.hid ⟨O5.out, C5.out, B5.out⟩⟩, by simp [intOf]; omega⟩
            · obtain rfl : q = l.length := by omega
              have HN : Hid (A ++ uintB l.length ++ keysB (l.take l.length) = hd ++ levsB (L.take (k + 1))) := Lib.hid (by rw [HSS.out, HA.out, List.take_length]; simp [levB])
              have O6 := Lib.hid HI2.out.1
              rw [HN.out] at O6
              have C6 := Lib.hid HI2.out.2.1
              have B6 := Lib.hid HI2.out.2.2
              clear HI2
              go_wp2
              exact ⟨⟨k + 1, by omega, by go_num, Lib.hid ⟨O6.out, C6.out, B6.out⟩⟩, by simp [intOf]; omega⟩
        · obtain rfl : k = L.length := by omega
          have hnlt : ¬ (L.length : Int) < (L.length : Int) := by omega
          have O6 := Lib.hid HI.out.1
          have B6 := Lib.hid HI.out.2.2
          rw [HT.out] at O6
          clear HI
          go_wp2
          go_ret2
          exact ⟨_, rfl, O6.out.mono (Nat.le_succ _), B6.out⟩
    · have HHE : Hid (encL [S, T, K, 1, (L.length : Int)] = hd) := Lib.hid (HHD.out 1 (by decide))
      clear HHD
      go_enter Tryd.func29, Tryd.ntmps29
      go_wp2_with (go_at_call 20; (with_reducible refine (HV.out _ B0.out).mono ?_); rintro e w2 ⟨rfl, hb2⟩; have B2 := Lib.hid (bgo B0.out hb2); have C2 := Lib.hid (C0.out.go hb2); obtain ⟨⟨p0, p1, p2, p3, p4⟩, -⟩ := C2.out; clear hb2)
      have N2 := Lib.hid (OwnI.five (a := S) (b := T) (c := K) (d := 1) (e := (L.length : Int)) (by omega) (by omega) (by omega) (by omega) (by omega) w2)
      have Z2 : Hid (w.heap.size + 1 ≤ (w2.alloc (.cells #[.int .i64 S, .int .i64 T, .int .i64 K, .int .i64 1, .int .i64 (L.length : Int)] 3)).heap.size) := Lib.hid (by have := C2.out.lt; simp; omega)
      have M2 : Hid (Small9 [S, T, K, 1, (L.length : Int)]) := Lib.hid (fun n hn => by simp at hn; omega)
      go_at_call 57
      refine (auints9_any (w.heap.size + 1) w2.heap.size [] [S, T, K, 1, (L.length : Int)] _ _ _ (Own.empty _ _) N2.out M2.out Z2.out (by simp) (by simp)).mono ?_
      rintro e w3 ⟨v3, rfl, ho3, hb3⟩
      rw [List.nil_append, HHE.out] at ho3
      have C3 := Lib.hid ((C2.out.go (b1 (.cells #[.int .i64 S, .int .i64 T, .int .i64 K, .int .i64 1, .int .i64 (L.length : Int)] 3))).below hb3 (Nat.lt_succ_self _))
      have B3 := Lib.hid ((bal B2.out (.cells #[.int .i64 S, .int .i64 T, .int .i64 K, .int .i64 1, .int .i64 (L.length : Int)] 3)).trans (hb3.mono (Nat.le_succ _)))
      have HI : Hid (Own (w.heap.size + 1) (hd ++ levsB (L.take 0)) v3 w3 ∧ RsS w.heap.size S T K (.slice a L.length cap) true w3 ∧ Below w.heap.size w w3) := Lib.hid ⟨by rw [List.take_zero, levsB_nil, List.append_nil]; exact ho3, C3.out, B3.out⟩
      clear ho3 hb3 N2 Z2 M2 B2 C2 p0 p1 p2 p3 p4 HV C0 B0
      obtain ⟨⟨p0, p1, p2, p3, p4⟩, -⟩ := C3.out
      go_wp2
      clear p0 p1 p2 p3 p4 C3 B3
      go_loopw [6, 8, 10, 11, 12, 35] (fun b _ _ _ _ i wr => ∃ k : Nat, k ≤ L.length ∧ i = .int .i64 (k : Int) ∧ Hid (Own (w.heap.size + 1) (hd ++ levsB (L.take k)) b wr ∧ RsS w.heap.size S T K (.slice a L.length cap) true wr ∧ Below w.heap.size w wr)) (fun _ _ _ _ _ i _ => L.length - (intOf i).toNat)
      case atStart => exact ⟨0, by omega, rfl, HI⟩
      case round =>
        clear HI
        obtain ⟨k, hk, rfl, HI⟩ := hrel
        by_cases hlt : k < L.length
        · have hlt2 : (k : Int) < (L.length : Int) := by omega
          obtain ⟨b', o', u, m, c', rfl, -, hb', hc0, hr, hm⟩ := HR.out.at_ hlt
          have hc := ((bcell HI.out.2.2).1 b' (o' + k) hb').trans hc0
          have hlv := HLV.out k
          have hbl := HBL.out k
          have hkl : (L.take k).length ≤ 41 := by rw [List.length_take]; omega
          have HSS := Lib.hid (HSU.out k hlt)
          have hhl := HHL.out
          clear hc0 hb'
          subst hm
          generalize L.getD k [] = l at *
          have HRow := Lib.hid hr
          have HKY := Lib.hid hlv.1
          have hl31 := hlv.2
          clear hr hlv
          obtain ⟨A, hA⟩ : ∃ A, A = hd ++ levsB (L.take k) := ⟨_, rfl⟩
          have HA := Lib.hid hA
          have HLA : Hid (A.length ≤ 60000) := Lib.hid (by rw [hA, List.length_append]; omega)
          have N5 := Lib.hid (OwnI.sole (a := (l.length : Int)) (by omega) wr)
          have Z5 : Hid (w.heap.size + 1 ≤ (wr.alloc (.cells #[.int .i64 (l.length : Int)] 3)).heap.size) := Lib.hid (by have := HI.out.2.1.lt; simp; omega)
          have M5 : Hid (Small9 [(l.length : Int)]) := Lib.hid (fun n hn => by simp at hn; omega)
          have ho5 := HI.out.1
          rw [← hA] at ho5
          have O5 := Lib.hid ho5
          have C5 := Lib.hid HI.out.2.1
          have B5 := Lib.hid HI.out.2.2
          clear HI ho5 hA hbl hhl hkl
          go_wp2_with (fail)
          go_at_call 57
          refine (auints9_any (w.heap.size + 1) wr.heap.size A [(l.length : Int)] _ _ _ (O5.out.alloc _) N5.out M5.out Z5.out (by have := HLA.out; omega) (by simp)).mono ?_
          rintro e w6 ⟨v6, rfl, ho6, hb6⟩
          rw [encL_one, Int.toNat_natCast] at ho6
          have HI2 : Hid (Own (w.heap.size + 1) (A ++ uintB l.length ++ keysB (l.take 0)) v6 w6 ∧ RsS w.heap.size S T K (.slice (some ⟨b', o', none⟩) L.length cap) true w6 ∧ Below w.heap.size w w6) := Lib.hid ⟨by rw [List.take_zero, keysB_nil, List.append_nil]; exact ho6, (C5.out.go (b1 _)).below hb6 (Nat.lt_succ_self _), (bal B5.out (.cells #[.int .i64 (l.length : Int)] 3)).trans (hb6.mono (Nat.le_succ _))⟩
          clear ho6 hb6 N5 Z5 M5 O5 C5 B5 hc
          go_wp2
          go_loopw [6, 10, 11, 12, 46] (fun b _ _ _ i wr2 => ∃ q : Nat, q ≤ l.length ∧ i = .int .i64 (q : Int) ∧ Hid (Own (w.heap.size + 1) (A ++ uintB l.length ++ keysB (l.take q)) b wr2 ∧ RsS w.heap.size S T K (.slice (some ⟨b', o', none⟩) L.length cap) true wr2 ∧ Below w.heap.size w wr2)) (fun _ _ _ _ i _ => l.length - (intOf i).toNat)
          case atStart => exact ⟨0, by omega, rfl, HI2⟩
          case round =>
            clear HI2
            obtain ⟨q, hq, rfl, HI2⟩ := hrel
            by_cases hlq : q < l.length
            · have hlq2 : (q : Int) < (l.length : Int) := by omega
              obtain ⟨b3, o3, rfl, -, hd1⟩ := (HRow.out.below HI2.out.2.2).cell hlq
              have HKS := Lib.hid (keysB_succ hlq)
              have hkey := HKY.out _ (getD_mem (d := ByteArray.empty) hlq)
              have hla := HLA.out
              have hkb := keysB_len (l := l.take q) (fun x hx => HKY.out x (List.mem_of_mem_take hx))
              have hlq3 : (l.take q).length ≤ 31 := by rw [List.length_take]; omega
              have hul := (uintB_len l.length (by omega)).2
              generalize l.getD q ByteArray.empty = X at *
              have hte : textE (byt X) = 0 := by unfold textE; rw [if_pos (by have := keyK_len hkey; omega)]
              have htx := textK_len hkey
              have HTX := Lib.hid (fun w => encText_any X w (key_size hkey))
              rw [hte] at HTX
              have HLN : Hid ((A ++ uintB l.length ++ keysB (l.take q)).length + (textB (byt X)).length ≤ 140737488355328) := Lib.hid (by rw [List.length_append, List.length_append]; omega)
              generalize textB (byt X) = TB at *
              have O1 := Lib.hid HI2.out.1
              have C1 := Lib.hid HI2.out.2.1
              have B1 := Lib.hid HI2.out.2.2
              clear HI2 hkb hlq3 hul hte htx hkey hla
              go_wp2_with (first
                | (go_at_call 58; (with_reducible refine (HTX.out _).mono ?_); rintro e w4 ⟨v4, rfl, ho4, hb4⟩; have O4 := Lib.hid (O1.out.below hb4); have R4 := Lib.hid ho4.rd.src; have C4 := Lib.hid (C1.out.go hb4); have B4 := Lib.hid (bgo B1.out hb4); have Z4 : Hid (w.heap.size + 1 ≤ w4.heap.size) := Lib.hid C4.out.lt; clear ho4 hb4 O1 C1 B1)
                | (at_builtin; refine wp_appL8 rfl _ _ _ rfl (w.heap.size + 1) (A ++ uintB l.length ++ keysB (l.take q)) TB _ _ rfl rfl O4.out R4.out Z4.out HLN.out ?_; (intro v5 w5 ho5 hb5 hl5; have O5 : Hid (Own (w.heap.size + 1) (A ++ uintB l.length ++ keysB (l.take (q + 1))) v5 w5) := Lib.hid (by rw [HKS.out]; simpa only [List.append_assoc] using ho5); have C5 := Lib.hid (C4.out.below hb5 (Nat.lt_succ_self _)); have B5 := Lib.hid (B4.out.trans (hb5.mono (Nat.le_succ _))); clear ho5 hb5 hl5)))
              exact ⟨⟨q + 1, by omega, by go_num, Lib.hid ⟨O5.out, C5.out, B5.out⟩⟩, by simp [intOf]; omega⟩
            · obtain rfl : q = l.length := by omega
              have HN : Hid (A ++ uintB l.length ++ keysB (l.take l.length) = hd ++ levsB (L.take (k + 1))) := Lib.hid (by rw [HSS.out, HA.out, List.take_length]; simp [levB])
              have O6 := Lib.hid HI2.out.1
              rw [HN.out] at O6
              have C6 := Lib.hid HI2.out.2.1
              have B6 := Lib.hid HI2.out.2.2
              clear HI2
              go_wp2
              exact ⟨⟨k + 1, by omega, by go_num, Lib.hid ⟨O6.out, C6.out, B6.out⟩⟩, by simp [intOf]; omega⟩
        · obtain rfl : k = L.length := by omega
          have hnlt : ¬ (L.length : Int) < (L.length : Int) := by omega
          have O6 := Lib.hid HI.out.1
          have B6 := Lib.hid HI.out.2.2
          rw [HT.out] at O6
          clear HI
          go_wp2
          go_ret2
          exact ⟨_, rfl, O6.out.mono (Nat.le_succ _), B6.out⟩
  · rw [if_neg hE]
    have hE2 : (valR S T K L != 0) = true := by simpa using hE
    generalize valR S T K L = E at *
    clear hE
    go_enter Tryd.func29, Tryd.ntmps29
    go_wp2_with (go_at_call 20; (with_reducible refine (HV.out _ B0.out).mono ?_); rintro e w2 ⟨rfl, hb2⟩; have B2 := Lib.hid (bgo B0.out hb2); clear hb2)
    go_ret2
    exact ⟨_, rfl, Own.empty _ _, B2.out⟩
/-- Block g alone has turned; new blocks are allowed. -/
def Tn (g : Nat) (w w' : World) : Prop := Below g w w' ∧ w.heap.size ≤ w'.heap.size ∧ ∀ b, b < w.heap.size → b ≠ g → w'.heap[b]? = w.heap[b]?
theorem Tn.refl (g : Nat) (w : World) : Tn g w w := ⟨Below.refl _ _, Nat.le_refl _, fun _ _ _ => rfl⟩
theorem Tn.trans {g : Nat} {w u v : World} (h : Tn g w u) (k : Tn g u v) : Tn g w v := ⟨h.1.trans k.1, Nat.le_trans h.2.1 k.2.1, fun b hb hn => (k.2.2 b (Nat.lt_of_lt_of_le hb h.2.1) hn).trans (h.2.2 b hb hn)⟩
theorem Tn.of {g : Nat} {w w' : World} (h : Below w.heap.size w w') (hg : g < w.heap.size) : Tn g w w' := ⟨h.mono (Nat.le_of_lt hg), h.size, fun b hb _ => h.block b hb⟩
theorem Oth.tn {g : Nat} {w w' : World} (h : Oth g w w') : Tn g w w' := ⟨h.1, h.1.size, fun b _ hn => h.2 b hn⟩
theorem OwnS.tn {B g : Nat} {L : List ByteArray} {v : Value} {w w' : World} (h : OwnS B L v w) (ho : Tn g w w') (hg : g < B) : OwnS B L v w' := h.keep (fun b hb e => ho.2.2 b hb (by have := (h.lt e).1; omega))
set_option maxRecDepth 100000 in
set_option maxHeartbeats 2000000 in
theorem text_good (g : Nat) (L : List Int) (v : Value) (k : Nat) (w : World) (h : Rd L v w) (hk : k ≤ L.length)
    (c0 : w.cell? ⟨g, 0, none⟩ = some v) (c1 : w.cell? ⟨g, 1, none⟩ = some (.int .i64 (k : Int))) (c2 : w.cell? ⟨g, 2, none⟩ = some (.bool false)) (f1 : w.frozen? ⟨g, 1, none⟩ = false) (hg : (decT (L.drop k)).2.2 = 0) :
    Calls Tryd.prog 65 #[.pointer (some ⟨g, 0, none⟩)] w fun e w' =>
      e = .returned (.string (strOfNums (decT (L.drop k)).1)) ∧ ∃ m, w' = (w.setCell ⟨g, 1, none⟩ (.int .i64 ((k : Int) + (decT (L.drop k)).2.1))).drewN m := by
  have hr := fun w => tlV_run h k hk w
  have ht := h.tl k hk
  have hd := fun n => rdecText_any (L.drop k) (tlV v k) (w.drewN n) ht
  obtain ⟨b2, b3, b4⟩ := decT_bd ht.1
  have hl : (k : Int) + (decT (L.drop k)).2.1 ≤ 9223372036854775807 := by
    obtain ⟨_, _, _, _, h1, h2, _⟩ := h
    unfold maxLen at h2
    rw [List.length_drop] at b3
    omega
  generalize tlV v k = u at *
  generalize strOfNums (decT (L.drop k)).1 = n at *
  generalize (decT (L.drop k)).2.1 = j at *
  generalize (decT (L.drop k)).2.2 = e at *
  subst hg
  clear h ht b3
  go_enter Tryd.func65, Tryd.ntmps65
  go_wp2
  go_quiet ((go_at_call 84; exact quiet_left (hd _)))
  go_wp2
  go_ret
  exact ⟨rfl, _, rfl⟩
set_option maxRecDepth 100000 in
set_option maxHeartbeats 2000000 in
theorem text_bad (g : Nat) (L : List Int) (v : Value) (k : Nat) (b : Bool) (w : World) (h : Rd L v w) (hk : k ≤ L.length)
    (c0 : w.cell? ⟨g, 0, none⟩ = some v) (c1 : w.cell? ⟨g, 1, none⟩ = some (.int .i64 (k : Int))) (c2 : w.cell? ⟨g, 2, none⟩ = some (.bool b)) (f2 : w.frozen? ⟨g, 2, none⟩ = false) (hg : b = true ∨ (decT (L.drop k)).2.2 ≠ 0) :
    Calls Tryd.prog 65 #[.pointer (some ⟨g, 0, none⟩)] w fun e w' =>
      e = .returned (.string ⟨#[]⟩) ∧ ∃ m, w' = (w.setCell ⟨g, 2, none⟩ (.bool true)).drewN m := by
  have hr := fun w => tlV_run h k hk w
  have ht := h.tl k hk
  have hd := fun n => rdecText_any (L.drop k) (tlV v k) (w.drewN n) ht
  generalize tlV v k = u at *
  generalize strOfNums (decT (L.drop k)).1 = n at *
  generalize (decT (L.drop k)).2.1 = j at *
  generalize (decT (L.drop k)).2.2 = e at *
  have hll : (L.length : Int) ≤ 9223372036854775807 := by
    obtain ⟨_, _, _, _, h1, h2, _⟩ := h
    unfold maxLen at h2
    omega
  clear h ht
  by_cases hb : b = true
  · subst hb
    clear hg
    go_enter Tryd.func65, Tryd.ntmps65
    go_wp2
    go_quiet ((go_at_call 84; exact quiet_left (hd _)))
    go_wp2
    go_ret
    exact ⟨rfl, _, rfl⟩
  · have hb' : b = false := by simpa using hb
    subst hb'
    have he : e ≠ 0 := by
      rcases hg with h | h
      · cases h
      · exact h
    have he' : (e != 0) = true := by simp [he]
    clear hb hg he
    go_enter Tryd.func65, Tryd.ntmps65
    go_wp2
    go_quiet ((go_at_call 84; exact quiet_left (hd _)))
    go_wp2
    go_ret
    exact ⟨rfl, _, rfl⟩
/-- What one reading of a string gives. -/
def TxtP (R : List Int) (b : Bool) (x : ByteArray) (b' : Bool) (R' : List Int) : Prop :=
  (b = false ∧ (decT R).2.2 = 0 ∧ x = strOfNums (decT R).1 ∧ b' = false ∧ R' = restT R) ∨ ((b = true ∨ (decT R).2.2 ≠ 0) ∧ x = ⟨#[]⟩ ∧ b' = true ∧ R' = R)
theorem rtxt_any {W : World} {g : Nat} {L R : List Int} {b : Bool} {w : World} (h : RS W g L R b w) (hb : Below W.heap.size W w) :
    Calls Tryd.prog 65 #[.pointer (some ⟨g, 0, none⟩)] w fun e w' =>
      ∃ x b' R', e = .returned (.string x) ∧ TxtP R b x b' R' ∧ RS W g L R' b' w' ∧ Oth g w w' := by
  obtain ⟨v, k, h1, h2, rfl, ⟨c0, c1, c2⟩, f0, f1, f2⟩ := h
  by_cases hg : b = false ∧ (decT (L.drop k)).2.2 = 0
  · obtain ⟨rfl, hg⟩ := hg
    refine (text_good g L v k w (h1.below hb) h2 c0 c1 c2 f1 hg).mono ?_
    rintro e w' ⟨rfl, m, rfl⟩
    have hbd := decT_bd (h1.1.drop k)
    rw [List.length_drop] at hbd
    have e1 : (k : Int) + (decT (L.drop k)).2.1 = ((k + (decT (L.drop k)).2.1.toNat : Nat) : Int) := by omega
    refine ⟨_, false, restT (L.drop k), rfl, .inl ⟨rfl, hg, rfl, rfl, rfl⟩, ⟨v, k + (decT (L.drop k)).2.1.toNat, h1, by omega, by unfold restT; rw [List.drop_drop], ?_⟩, Oth.one _ _ _ _ _⟩
    rw [e1]
    exact ⟨⟨by go_simp, by go_simp, by go_simp⟩, by go_simp, by go_simp, by go_simp⟩
  · have hg' : b = true ∨ (decT (L.drop k)).2.2 ≠ 0 := by
      by_cases hbt : b = true
      · exact .inl hbt
      · exact .inr fun h => hg ⟨by simpa using hbt, h⟩
    refine (text_bad g L v k b w (h1.below hb) h2 c0 c1 c2 f2 hg').mono ?_
    rintro e w' ⟨rfl, m, rfl⟩
    exact ⟨⟨#[]⟩, true, L.drop k, rfl, .inr ⟨hg', rfl, rfl, rfl⟩, ⟨v, k, h1, h2, rfl, ⟨by go_simp, by go_simp, by go_simp⟩, by go_simp, by go_simp, by go_simp⟩, Oth.one _ _ _ _ _⟩
theorem restU_byt {R : List Int} (h : Byt R) : Byt (restU R) := h.drop _
theorem restT_byt {R : List Int} (h : Byt R) : Byt (restT R) := h.drop _
/-- Keys, k of them read: what is left, whether something was wrong, the keys. -/
def rsK (R : List Int) : Nat → List Int
  | 0 => R
  | k + 1 => restT (rsK R k)
def flK (F : Bool) (R : List Int) : Nat → Bool
  | 0 => F
  | k + 1 => flK F R k || (decT (rsK R k)).2.2 != 0
def ksK (R : List Int) : Nat → List ByteArray
  | 0 => []
  | k + 1 => ksK R k ++ [strOfNums (decT (rsK R k)).1]
theorem rsK_byt {R : List Int} (h : Byt R) : ∀ k, Byt (rsK R k)
  | 0 => h
  | k + 1 => restT_byt (rsK_byt h k)
theorem ksK_len (R : List Int) : ∀ k, (ksK R k).length = k
  | 0 => rfl
  | k + 1 => by simp [ksK, ksK_len R k]
theorem txt_size {R : List Int} (h : Byt R) : (strOfNums (decT R).1).size ≤ maxLen := by
  have h1 := (decT_bd h).2.2
  rw [strOfNums_size]
  unfold maxLen
  omega
theorem ksK_ok {R : List Int} (h : Byt R) : ∀ k, SOk (ksK R k)
  | 0 => fun x hx => (by cases hx)
  | k + 1 => fun x hx => by
    rcases List.mem_append.1 hx with hx | hx
    · exact ksK_ok h k x hx
    · rw [List.mem_singleton] at hx
      subst hx
      exact txt_size (rsK_byt h k)
theorem flK_or (F G : Bool) (R : List Int) : ∀ k, flK (F || G) R k = (F || flK G R k)
  | 0 => rfl
  | k + 1 => by simp only [flK, flK_or F G R k, Bool.or_assoc]
theorem flK_mono {F : Bool} {R : List Int} {k : Nat} : ∀ {n : Nat}, k ≤ n → flK F R k = true → flK F R n = true
  | 0, h, hf => by rw [show k = 0 from by omega] at hf; exact hf
  | n + 1, h, hf => by
    by_cases hk : k ≤ n
    · simp only [flK, flK_mono hk hf, Bool.true_or]
    · obtain rfl : k = n + 1 := by omega
      exact hf
/-- A level: its number of keys, the keys, what is left, whether something was wrong. -/
def nL (R : List Int) : Int := (decU R).1
def lvA (R : List Int) : List ByteArray := if 32 < nL R then [] else ksK (restU R) (nL R).toNat
def lvR (R : List Int) : List Int := if 32 < nL R then restU R else rsK (restU R) (nL R).toNat
def lvF (R : List Int) : Bool := if 32 < nL R then true else flK ((decU R).2.2 != 0) (restU R) (nL R).toNat
theorem lvR_byt {R : List Int} (h : Byt R) : Byt (lvR R) := by
  unfold lvR
  split
  · exact restU_byt h
  · exact rsK_byt (restU_byt h) _
theorem lvA_len (R : List Int) : (lvA R).length ≤ 32 := by
  unfold lvA
  split
  · exact Nat.zero_le _
  · rw [ksK_len]; omega
theorem lvA_ok {R : List Int} (h : Byt R) : SOk (lvA R) := by
  unfold lvA
  split
  · intro x hx; cases hx
  · exact ksK_ok (restU_byt h) _
/-- Levels, k of them read. -/
def rsV (R : List Int) : Nat → List Int
  | 0 => R
  | k + 1 => lvR (rsV R k)
def flV (F : Bool) (R : List Int) : Nat → Bool
  | 0 => F
  | k + 1 => flV F R k || lvF (rsV R k)
def lsV (R : List Int) : Nat → List (List ByteArray)
  | 0 => []
  | k + 1 => lsV R k ++ [lvA (rsV R k)]
theorem rsV_byt {R : List Int} (h : Byt R) : ∀ k, Byt (rsV R k)
  | 0 => h
  | k + 1 => lvR_byt (rsV_byt h k)
theorem lsV_len (R : List Int) : ∀ k, (lsV R k).length = k
  | 0 => rfl
  | k + 1 => by simp [lsV, lsV_len R k]
theorem lsV_all {R : List Int} (h : Byt R) : ∀ k, ∀ l ∈ lsV R k, l.length ≤ 32 ∧ SOk l
  | 0 => fun l hl => (by cases hl)
  | k + 1 => fun l hl => by
    rcases List.mem_append.1 hl with hl | hl
    · exact lsV_all h k l hl
    · rw [List.mem_singleton] at hl
      subst hl
      exact ⟨lvA_len _, lvA_ok (rsV_byt h k)⟩
theorem lsV_lok {R : List Int} (h : Byt R) {k : Nat} (hk : k ≤ 41) : LOk (lsV R k) := ⟨by rw [lsV_len]; omega, fun l hl => ⟨by have := (lsV_all h k l hl).1; omega, (lsV_all h k l hl).2⟩⟩
theorem flV_mono {F : Bool} {R : List Int} {k : Nat} : ∀ {n : Nat}, k ≤ n → flV F R k = true → flV F R n = true
  | 0, h, hf => by rw [show k = 0 from by omega] at hf; exact hf
  | n + 1, h, hf => by
    by_cases hk : k ≤ n
    · simp only [flV, flV_mono hk hf, Bool.true_or]
    · obtain rfl : k = n + 1 := by omega
      exact hf
/-- The head's numbers, what follows it, whether it was wrong. -/
def qS (L : List Int) : Int := (decU L).1
def qT (L : List Int) : Int := (decU (restU L)).1
def qK (L : List Int) : Int := (decU (restU (restU L))).1
def qX (L : List Int) : Int := (decU (restU (restU (restU L)))).1
def qN (L : List Int) : Int := (decU (restU (restU (restU (restU L))))).1
def qR (L : List Int) : List Int := restU (restU (restU (restU (restU L))))
def qF (L : List Int) : Bool := (((((false || (decU L).2.2 != 0) || (decU (restU L)).2.2 != 0) || (decU (restU (restU L))).2.2 != 0) || (decU (restU (restU (restU L)))).2.2 != 0) || (decU (restU (restU (restU (restU L))))).2.2 != 0)
/-- A summary's encoding. -/
def OkR (L : List Int) : Prop := qX L ≤ 1 ∧ qN L ≤ 41 ∧ flV (qF L) (qR L) (qN L).toNat = false ∧ rsV (qR L) (qN L).toNat = [] ∧ valR (qS L) (qT L) (qK L) (lsV (qR L) (qN L).toNat) = 0
instance (L : List Int) : Decidable (OkR L) := by unfold OkR; infer_instance
def decR (L : List Int) : RK := if OkR L then ⟨qS L, qT L, qK L, lsV (qR L) (qN L).toNat, qX L == 1⟩ else ⟨0, 0, 0, [], false⟩
def errR (L : List Int) : Int := if OkR L then 0 else 2
theorem decR_no {L : List Int} (h : ¬ OkR L) : decR L = ⟨0, 0, 0, [], false⟩ ∧ errR L = 2 := ⟨if_neg h, if_neg h⟩
theorem decR_yes {L : List Int} (h : OkR L) : decR L = ⟨qS L, qT L, qK L, lsV (qR L) (qN L).toNat, qX L == 1⟩ ∧ errR L = 0 := ⟨if_pos h, if_pos h⟩
theorem decR_lok {L : List Int} (h : Byt L) : LOk (decR L).L := by
  by_cases ho : OkR L
  · rw [(decR_yes ho).1]
    exact lsV_lok (restU_byt (restU_byt (restU_byt (restU_byt (restU_byt h))))) (by have := ho.2.1; omega)
  · rw [(decR_no ho).1]
    exact ⟨by simp, by simp⟩
theorem headR_byt {L : List Int} (h : Byt L) : Byt (qR L) := restU_byt (restU_byt (restU_byt (restU_byt (restU_byt h))))
theorem headR_bd {L : List Int} (h : Byt L) : (0 ≤ qS L ∧ qS L ≤ 4611686018427387904) ∧ (0 ≤ qT L ∧ qT L ≤ 4611686018427387904) ∧ (0 ≤ qK L ∧ qK L ≤ 4611686018427387904) ∧ (0 ≤ qX L ∧ qX L ≤ 4611686018427387904) ∧ 0 ≤ qN L ∧ qN L ≤ 4611686018427387904 := by
  have h0 := decU_bd h
  have h1 := decU_bd (restU_byt h)
  have h2 := decU_bd (restU_byt (restU_byt h))
  have h3 := decU_bd (restU_byt (restU_byt (restU_byt h)))
  have h4 := decU_bd (restU_byt (restU_byt (restU_byt (restU_byt h))))
  unfold qS qT qK qX qN
  omega
/-- What is wrong at a level is wrong. -/
theorem okR_lev {L : List Int} {k : Nat} (hk : k < (qN L).toNat) (h : lvF (rsV (qR L) k) = true) : ¬ OkR L := by
  rintro ⟨_, _, h3, _, h5⟩
  have : flV (qF L) (qR L) (k + 1) = true := by simp [flV, h]
  rw [flV_mono (Nat.succ_le_of_lt hk) this] at h3
  cases h3
theorem okR_head {L : List Int} (h : qF L = true ∨ 32 < qS L ∨ 1099511627776 < qT L ∨ 1099511627776 < qK L ∨ 1 < qX L ∨ 41 < qN L) : ¬ OkR L := by
  rintro ⟨h1, h2, h3, _, h5⟩
  have hv := valR_ok h5
  have a1 := hv.s1
  have a2 := hv.t1
  have a3 := hv.k1
  rcases h with h | h | h | h | h | h
  · have h0 : flV (qF L) (qR L) 0 = true := h
    rw [flV_mono (Nat.zero_le _) h0] at h3
    cases h3
  all_goals omega
/-- The head, read with bounds. -/
theorem headR {L R1 R2 R3 R4 R5 : List Int} {b1 b2 b3 b4 b5 : Bool} {s t q x n : Int} (hy : Byt L) (h1 : NumP L 32 false s b1 R1) (h2 : NumP R1 1099511627776 b1 t b2 R2) (h3 : NumP R2 1099511627776 b2 q b3 R3) (h4 : NumP R3 1 b3 x b4 R4) (h5 : NumP R4 41 b4 n b5 R5) :
    (b5 = false ∧ s = qS L ∧ t = qT L ∧ q = qK L ∧ x = qX L ∧ n = qN L ∧ R5 = qR L ∧ qF L = false ∧ qS L ≤ 32 ∧ qT L ≤ 1099511627776 ∧ qK L ≤ 1099511627776 ∧ qX L ≤ 1 ∧ qN L ≤ 41) ∨ (b5 = true ∧ n = 0 ∧ ¬ OkR L) := by
  have bad : ∀ {R R' : List Int} {M n : Int} {b : Bool}, NumP R M true n b R' → n = 0 ∧ b = true := fun h => by
    rcases h with ⟨h, _⟩ | ⟨_, h, h', _⟩
    · cases h
    · exact ⟨h, h'⟩
  rcases h1 with ⟨-, a1, rfl, rfl, rfl⟩ | ⟨a1, rfl, rfl, rfl⟩
  · have g1 := numG_yes a1
    rcases h2 with ⟨-, a2, rfl, rfl, rfl⟩ | ⟨a2, rfl, rfl, rfl⟩
    · have g2 := numG_yes a2
      rcases h3 with ⟨-, a3, rfl, rfl, rfl⟩ | ⟨a3, rfl, rfl, rfl⟩
      · have g3 := numG_yes a3
        rcases h4 with ⟨-, a4, rfl, rfl, rfl⟩ | ⟨a4, rfl, rfl, rfl⟩
        · have g4 := numG_yes a4
          rcases h5 with ⟨-, a5, rfl, rfl, rfl⟩ | ⟨a5, rfl, rfl, rfl⟩
          · have g5 := numG_yes a5
            exact .inl ⟨rfl, rfl, rfl, rfl, rfl, rfl, rfl, by unfold qF; simp [g1.1, g2.1, g3.1, g4.1, g5.1], g1.2, g2.2, g3.2, g4.2, g5.2⟩
          · refine .inr ⟨rfl, rfl, ?_⟩
            rcases a5 with h | h
            · cases h
            · rcases numG_no h with h | h
              · exact okR_head (.inl (by unfold qF; simp [h]))
              · exact okR_head (.inr (.inr (.inr (.inr (.inr h)))))
        · obtain ⟨rfl, rfl⟩ := bad h5
          refine .inr ⟨rfl, rfl, ?_⟩
          rcases a4 with h | h
          · cases h
          · rcases numG_no h with h | h
            · exact okR_head (.inl (by unfold qF; simp [h]))
            · exact okR_head (.inr (.inr (.inr (.inr (.inl h)))))
      · obtain ⟨rfl, rfl⟩ := bad h4
        obtain ⟨rfl, rfl⟩ := bad h5
        refine .inr ⟨rfl, rfl, ?_⟩
        rcases a3 with h | h
        · cases h
        · rcases numG_no h with h | h
          · exact okR_head (.inl (by unfold qF; simp [h]))
          · exact okR_head (.inr (.inr (.inr (.inl h))))
    · obtain ⟨rfl, rfl⟩ := bad h3
      obtain ⟨rfl, rfl⟩ := bad h4
      obtain ⟨rfl, rfl⟩ := bad h5
      refine .inr ⟨rfl, rfl, ?_⟩
      rcases a2 with h | h
      · cases h
      · rcases numG_no h with h | h
        · exact okR_head (.inl (by unfold qF; simp [h]))
        · exact okR_head (.inr (.inr (.inl h)))
  · obtain ⟨rfl, rfl⟩ := bad h2
    obtain ⟨rfl, rfl⟩ := bad h3
    obtain ⟨rfl, rfl⟩ := bad h4
    obtain ⟨rfl, rfl⟩ := bad h5
    refine .inr ⟨rfl, rfl, ?_⟩
    rcases a1 with h | h
    · cases h
    · rcases numG_no h with h | h
      · exact okR_head (.inl (by unfold qF; simp [h]))
      · exact okR_head (.inr (.inl h))
/-- What is encoded reads back. -/
theorem restU_app {n : Nat} (hn : n ≤ 4611686018427387904) (R : List Int) : restU (uintB n ++ R) = R := by
  unfold restU
  rw [decU_back hn R]
  simp
theorem restT_app {B : List Int} (hB : B.length ≤ 65536) (R : List Int) : restT (textB B ++ R) = R := by
  unfold restT
  rw [decT_back hB R]
  simp
theorem keys_app : ∀ {l : List ByteArray}, (∀ x ∈ l, keyB (byt x) = true) → ∀ R k, k ≤ l.length → ∀ F, rsK (keysB l ++ R) k = keysB (l.drop k) ++ R ∧ ksK (keysB l ++ R) k = l.take k ∧ flK F (keysB l ++ R) k = F := by
  intro l h R k
  induction k with
  | zero => exact fun _ _ => ⟨rfl, by simp [ksK], rfl⟩
  | succ k ih =>
    intro hk F
    obtain ⟨i1, i2, i3⟩ := ih (by omega) F
    have hd : l.drop k = l[k] :: l.drop (k + 1) := List.drop_eq_getElem_cons (by omega)
    have hb : rsK (keysB l ++ R) k = textB (byt l[k]) ++ (keysB (l.drop (k + 1)) ++ R) := by rw [i1, hd]; unfold keysB; rw [List.flatMap_cons, List.append_assoc]
    have hkl : (byt l[k]).length ≤ 65536 := by have := keyK_len (h l[k] (List.getElem_mem _)); omega
    have a1 := decT_back hkl (keysB (l.drop (k + 1)) ++ R)
    have a2 := restT_app hkl (keysB (l.drop (k + 1)) ++ R)
    refine ⟨?_, ?_, ?_⟩
    · show restT (rsK (keysB l ++ R) k) = _
      rw [hb, a2]
    · show ksK (keysB l ++ R) k ++ [strOfNums (decT (rsK (keysB l ++ R) k)).1] = _
      rw [hb, a1, i2, str_byt, List.take_succ_eq_append_getElem (by omega)]
    · show (flK F (keysB l ++ R) k || (decT (rsK (keysB l ++ R) k)).2.2 != 0) = _
      rw [hb, a1, i3]
      simp
theorem lev_app {l : List ByteArray} (h : ∀ x ∈ l, keyB (byt x) = true) (hl : l.length ≤ 31) (R : List Int) : lvA (levB l ++ R) = l ∧ lvR (levB l ++ R) = R ∧ lvF (levB l ++ R) = false := by
  have e1 : levB l ++ R = uintB l.length ++ (keysB l ++ R) := by unfold levB; rw [List.append_assoc]
  have t1 := decU_back (n := l.length) (by omega) (keysB l ++ R)
  have t2 := restU_app (n := l.length) (by omega) (keysB l ++ R)
  obtain ⟨k1, k2, k3⟩ := keys_app h R l.length (Nat.le_refl _) false
  rw [e1]
  have hn : nL (uintB l.length ++ (keysB l ++ R)) = (l.length : Int) := by unfold nL; rw [t1]
  have hn2 : ¬ (32 : Int) < (l.length : Int) := by omega
  refine ⟨?_, ?_, ?_⟩
  · unfold lvA
    rw [hn, if_neg hn2, t2, Int.toNat_natCast, k2, List.take_length]
  · unfold lvR
    rw [hn, if_neg hn2, t2, Int.toNat_natCast, k1, List.drop_length]
    rfl
  · unfold lvF
    rw [hn, if_neg hn2, t2, t1, Int.toNat_natCast]
    exact k3
theorem levs_app : ∀ {L : List (List ByteArray)}, (∀ l ∈ L, (∀ x ∈ l, keyB (byt x) = true) ∧ l.length ≤ 31) → ∀ k, k ≤ L.length → ∀ F, rsV (levsB L) k = levsB (L.drop k) ∧ lsV (levsB L) k = L.take k ∧ flV F (levsB L) k = F := by
  intro L h k
  induction k with
  | zero => exact fun _ _ => ⟨rfl, by simp [lsV], rfl⟩
  | succ k ih =>
    intro hk F
    obtain ⟨i1, i2, i3⟩ := ih (by omega) F
    have hd : L.drop k = L[k] :: L.drop (k + 1) := List.drop_eq_getElem_cons (by omega)
    have hb : rsV (levsB L) k = levB L[k] ++ levsB (L.drop (k + 1)) := by rw [i1, hd]; unfold levsB; rw [List.flatMap_cons]
    have hx := h L[k] (List.getElem_mem _)
    obtain ⟨a1, a2, a3⟩ := lev_app hx.1 hx.2 (levsB (L.drop (k + 1)))
    refine ⟨?_, ?_, ?_⟩
    · show lvR (rsV (levsB L) k) = _
      rw [hb, a2]
    · show lsV (levsB L) k ++ [lvA (rsV (levsB L) k)] = _
      rw [hb, a1, i2, List.take_succ_eq_append_getElem (by omega)]
    · show (flV F (levsB L) k || lvF (rsV (levsB L) k)) = _
      rw [hb, a3, i3, Bool.or_false]
theorem decR_cod {S T K : Int} {L : List (List ByteArray)} (s : Bool) (h : valR S T K L = 0) : decR (codR ⟨S, T, K, L, s⟩) = ⟨S, T, K, L, s⟩ ∧ errR (codR ⟨S, T, K, L, s⟩) = 0 := by
  have hv := valR_ok h
  have a0 := hv.s0
  have a1 := hv.s1
  have a2 := hv.t0
  have a3 := hv.t1
  have a4 := hv.nl
  have a5 := hv.k0
  have a6 := hv.k1
  have hall := hv.lev_ok
  have hfl : flagN s ≤ 1 := by unfold flagN; split <;> omega
  have hc : codR ⟨S, T, K, L, s⟩ = uintB S.toNat ++ (uintB T.toNat ++ (uintB K.toNat ++ (uintB (flagN s) ++ (uintB L.length ++ levsB L)))) := by unfold codR; dsimp only; rw [if_pos h]; unfold hdR; simp only [List.append_assoc]
  rw [hc]
  have r1 := restU_app (n := S.toNat) (by omega) (uintB T.toNat ++ (uintB K.toNat ++ (uintB (flagN s) ++ (uintB L.length ++ levsB L))))
  have r2 := restU_app (n := T.toNat) (by omega) (uintB K.toNat ++ (uintB (flagN s) ++ (uintB L.length ++ levsB L)))
  have r5 := restU_app (n := K.toNat) (by omega) (uintB (flagN s) ++ (uintB L.length ++ levsB L))
  have r3 := restU_app (n := flagN s) (by omega) (uintB L.length ++ levsB L)
  have r4 := restU_app (n := L.length) (by omega) (levsB L)
  have d1 := decU_back (n := S.toNat) (by omega) (uintB T.toNat ++ (uintB K.toNat ++ (uintB (flagN s) ++ (uintB L.length ++ levsB L))))
  have d2 := decU_back (n := T.toNat) (by omega) (uintB K.toNat ++ (uintB (flagN s) ++ (uintB L.length ++ levsB L)))
  have d5 := decU_back (n := K.toNat) (by omega) (uintB (flagN s) ++ (uintB L.length ++ levsB L))
  have d3 := decU_back (n := flagN s) (by omega) (uintB L.length ++ levsB L)
  have d4 := decU_back (n := L.length) (by omega) (levsB L)
  generalize hE : uintB S.toNat ++ (uintB T.toNat ++ (uintB K.toNat ++ (uintB (flagN s) ++ (uintB L.length ++ levsB L)))) = Z at *
  have k1 : qS Z = S := by unfold qS; rw [d1]; simp only; omega
  have k2 : qT Z = T := by unfold qT; rw [r1, d2]; simp only; omega
  have k7 : qK Z = K := by unfold qK; rw [r1, r2, d5]; simp only; omega
  have k3 : qX Z = (flagN s : Int) := by unfold qX; rw [r1, r2, r5, d3]
  have k4 : qN Z = (L.length : Int) := by unfold qN; rw [r1, r2, r5, r3, d4]
  have k5 : qR Z = levsB L := by unfold qR; rw [r1, r2, r5, r3, r4]
  have k6 : qF Z = false := by unfold qF; rw [r1, r2, r5, r3, d1, d2, d5, d3, d4]; rfl
  obtain ⟨e1, e2, e3⟩ := levs_app hall L.length (Nat.le_refl _) false
  have hok : OkR Z := by
    refine ⟨by rw [k3]; omega, by rw [k4]; omega, ?_, ?_, ?_⟩
    · rw [k4, k5, k6, Int.toNat_natCast]; exact e3
    · rw [k4, k5, Int.toNat_natCast, e1, List.drop_length]; rfl
    · rw [k1, k2, k7, k4, k5, Int.toNat_natCast, e2, List.take_length]; exact h
  obtain ⟨y1, y2⟩ := decR_yes hok
  rw [y1, y2, k1, k2, k7, k3, k4, k5, Int.toNat_natCast, e2, List.take_length]
  exact ⟨by cases s <;> rfl, rfl⟩
/-- append, onto bytes of the call's own, as one step of a region that draws its order: just its own row turns. -/
theorem step_appL8 {w : World} {ops : Array Oper} {o : Oper} {a : Act} {K : Act → World → Prop} {Q : Exit → Act → World → Prop} {E : Prop} (hgd : o.guard = none) (s x : Operand) (tx : TypeId)
    (ho : o.op = .call { callee := .builtin .append, args := #[s, x], argTypes := #[23, tx] }) (B : Nat) (L M : List Int) (v u : Value) (hs : a.eval s = v) (hx : a.eval x = u)
    (hown : Own B L v w) (hsrc : From M tx u w) (hB : B ≤ w.heap.size) (hn : L.length + M.length ≤ 140737488355328)
    (h : ∀ v' w', Own B (L ++ M) v' w' → Below B w w' → Lone v w w' → K (a.put o.dst v') w') : if Region.wanted o (yielded ops a.tmps) = true then Oper.wp Tryd.prog o a w K Q else E := by
  have hw : Region.wanted o (yielded ops a.tmps) = true := by simp [Region.wanted, hgd]
  rw [if_pos hw]
  obtain ⟨i0, hi, hz0, hz1, hz2⟩ := info_parts info_u8
  obtain ⟨v', w', hr, h1, h2⟩ := run_own_src (P := Tryd.prog) w B 23 tx o.type 5 i0 (.int .u8 0) 1 1 Tryd.underlying23 hi hz0 hz1 hz2 rfl (by decide) v L.length (cells8 L) hown.2 u M.length (cells8 M) hsrc.2 (by unfold maxLen; omega) (by omega) hB
  unfold Oper.wp execOp
  simp only [ho, resolve, invoke, builtin, Sem.run_bind, Sem.run_pure, Result.andThen_ok, List.map_toArray, List.map_cons, List.map_nil, hs, hx, hr]
  have hb := (Below.refl B w).grown h2 hB (fun k hk => (World.ownsRow.lt hown.2 k hk).1)
  refine h v' w' ⟨hown.1.app hsrc.1, ?_⟩ hb ⟨hb.size, fun g hg hne => h2.block g hg (Ne.symm hne)⟩
  rw [List.length_append, cells8_app]
  exact h1
/-- Newer bytes stay where older ones are appended to. -/
theorem Own.aside {B1 : Nat} {L : List Int} {u v : Value} {w w' : World} (h : Own B1 L u w) (hl : Lone v w w') (hk : ∀ g, v.ownBlock = some g → g < B1) : Own B1 L u w' :=
  ⟨h.1, row_keep h.2 (fun g hg e => hl.2 g hg (fun e' => absurd (hk g e') (Nat.not_lt.2 (World.ownsRow.lt h.2 g e).1)))⟩
set_option maxRecDepth 100000 in
set_option maxHeartbeats 4000000 in
theorem rencR_any (S T K : Int) (L : List (List ByteArray)) (s : Bool) (a : Option Addr) (n cap : Nat) (w : World) (hr : RdL L (.slice a n cap) w) (hk : LOk L) :
    Calls Tryd.prog 30 #[.agg #[.int .i64 S, .int .i64 T, .int .i64 K, .slice a n cap, .bool s]] w fun e w' => ∃ v, e = .returned (.tuple #[v, .int .i64 (valR S T K L)]) ∧ Own w.heap.size (codR ⟨S, T, K, L, s⟩) v w' ∧ Below w.heap.size w w' := by
  obtain ⟨a', cap', he⟩ := hr.shape
  simp only [Value.slice.injEq] at he
  obtain ⟨rfl, rfl, rfl⟩ := he
  have HR := Lib.hid hr
  have HV := Lib.hid (fun (w' : World) (hb : Below w.heap.size w w') => rvalR_any S T K L s a L.length cap w' (hr.below hb) hk)
  have C0 := Lib.hid (RsS.new S T K (.slice a L.length cap) s 28 w)
  have B0 := Lib.hid (b1 (a := w) (.cells #[.int .i64 S, .int .i64 T, .int .i64 K, .slice a L.length cap, .bool s] 28))
  clear hr hk
  unfold codR
  dsimp only
  by_cases hE : valR S T K L = 0
  · rw [if_pos hE]
    have hval := valR_ok hE
    rw [hE] at HV ⊢
    have hs0 := hval.s0
    have hs1 := hval.s1
    have ht0 := hval.t0
    have ht1 := hval.t1
    have hk0 := hval.k0
    have hk1 := hval.k1
    have hnl := hval.nl
    have hall := hval.lev_ok
    have HLV := Lib.hid (fun i => getD_all (p := fun l => (∀ x ∈ l, keyB (byt x) = true) ∧ l.length ≤ 31) hall (by simp) i)
    have HBL := Lib.hid (fun k => levsB_len (L := L.take k) (fun x hx => hall x (List.mem_of_mem_take hx)))
    have HSU := Lib.hid (fun k (h : k < L.length) => levsB_succ h)
    have HT := Lib.hid (show L.take L.length = L from List.take_length)
    obtain ⟨z, hz⟩ : ∃ z : Nat, S = (z : Int) := ⟨S.toNat, by omega⟩
    obtain ⟨t, ht⟩ : ∃ t : Nat, T = (t : Int) := ⟨T.toNat, by omega⟩
    obtain ⟨y, hy0⟩ : ∃ y : Nat, K = (y : Int) := ⟨K.toNat, by omega⟩
    have HU1 := Lib.hid (fun w => ruint_any z w (by omega))
    have HU4 := Lib.hid (fun w => ruint_any y w (by omega))
    have HU2 := Lib.hid (fun w => ruint_any t w (by omega))
    have HU3 := Lib.hid (fun w => ruint_any L.length w (by omega))
    have HFL := Lib.hid (fun w => flag_any s w)
    have h1 := (uintB_len z (by omega)).2
    have h2 := (uintB_len t (by omega)).2
    have h3 := (uintB_len (flagN s) (by unfold flagN; split <;> omega)).2
    have h4 := (uintB_len L.length (by omega)).2
    have h5 := (uintB_len y (by omega)).2
    have HHD : Hid (hdR S T K s L.length = uintB z ++ uintB t ++ uintB y ++ uintB (flagN s) ++ uintB L.length) := Lib.hid (by unfold hdR; rw [hz, ht, hy0, Int.toNat_natCast, Int.toNat_natCast, Int.toNat_natCast])
    rw [HHD.out]
    rw [← hz] at HU1
    rw [← ht] at HU2
    rw [← hy0] at HU4
    generalize uintB z = DA at *
    generalize uintB t = DB at *
    generalize uintB y = DE at *
    generalize uintB (flagN s) = DC at *
    generalize uintB L.length = DD at *
    have HLA := Lib.hid (⟨h1, h2, h3, h4, h5⟩ : DA.length ≤ 9 ∧ DB.length ≤ 9 ∧ DC.length ≤ 9 ∧ DD.length ≤ 9 ∧ DE.length ≤ 9)
    obtain ⟨hd, hhd⟩ : ∃ hd, hd = DA ++ DB ++ DE ++ DC ++ DD := ⟨_, rfl⟩
    rw [← hhd]
    have HH9 := Lib.hid hhd
    clear hE hval hall h1 h2 h3 h4 h5 HHD hz ht hy0 hhd
    go_enter Tryd.func30, Tryd.ntmps30
    go_upto_region 4 with (go_at_call 21; (with_reducible refine (HV.out _ B0.out).mono ?_); rintro e w2 ⟨rfl, hb2⟩; have B2 := Lib.hid (bgo B0.out hb2); have C2 := Lib.hid (C0.out.below hb2 C0.out.lt); clear hb2)
    have D2 : Hid (RsS w.heap.size S T K (.slice a L.length cap) s w2.drew) := Lib.hid (C2.out.below (Below.refl _ _).drew C2.out.lt)
    have E2 : Hid (Below w.heap.size w w2.drew) := Lib.hid B2.out.drew
    have S0 := D2.out.1
    clear HV C0 B0
    refine wp_meetX 5 13 7 (fun v wx => Hid (Own (w.heap.size + 1) (DA ++ DB) v wx ∧ RsS w.heap.size S T K (.slice a L.length cap) s wx ∧ Below w.heap.size w wx)) ?_ ?_
    · intro G hG
      go_region_held3 (fun u => u.cell? ⟨w.heap.size, 0, none⟩ = some (.int .i64 S) ∧ u.cell? ⟨w.heap.size, 1, none⟩ = some (.int .i64 T) ∧ u.cell? ⟨w.heap.size, 2, none⟩ = some (.int .i64 K) ∧ u.cell? ⟨w.heap.size, 3, none⟩ = some (.slice a L.length cap) ∧ u.cell? ⟨w.heap.size, 4, none⟩ = some (.bool s)) (first | with_reducible assumption | go_keep) (first
        | (go_at_call 59; (with_reducible refine (HU2.out _).mono ?_); rintro e w4 ⟨v4, rfl, ho4, hb4⟩; have O4 := Lib.hid (O3.out.below hb4); have R4 := Lib.hid ho4.rd.src; have C4 := Lib.hid (C3.out.below hb4 C3.out.lt); have B4 := Lib.hid (bgo B3.out hb4); have S4 := C4.out.1; clear ho4 hb4)
        | (go_at_call 59; (with_reducible refine (HU1.out _).mono ?_); rintro e w3 ⟨v3, rfl, ho3, hb3⟩; have O3 := Lib.hid (Own.mono ho3 (B' := w.heap.size + 1) (by have := D2.out.lt; omega)); have C3 := Lib.hid (D2.out.below hb3 D2.out.lt); have B3 := Lib.hid (bgo E2.out hb3); have S3 := C3.out.1; clear ho3 hb3)
        | (refine step_appL8 rfl _ _ _ rfl (w.heap.size + 1) DA DB _ _ rfl rfl O4.out R4.out C4.out.lt (by have := HLA.out; omega) ?_; (intro v5 w5 ho5 hb5 hl5; have O5 := Lib.hid ho5; have C5 := Lib.hid (C4.out.below hb5 (Nat.lt_succ_self _)); have B5 := Lib.hid (B4.out.trans (hb5.mono (Nat.le_succ _))); have S5 := C5.out.1; clear ho5 hb5 hl5)))
      all_goals
        exact hG _ _ _ ⟨[_, _, _, _, _, _, _], rfl, rfl⟩ (Lib.hid ⟨O5.out, C5.out, B5.out⟩)
    intro aX wX vX hoff HX
    obtain ⟨us, hus, rfl⟩ := hoff
    match us, hus with
    | [u0, u1, u2, u3, u4, u5, u6], _ =>
      simp only [List.set_cons_succ, List.set_cons_zero, List.take_succ_cons, List.take_zero, List.drop_succ_cons, List.drop_zero, List.cons_append, List.nil_append]
      clear S0 D2 E2 B2 C2 HU1 HU2
      go_upto_region 5 with (fail)
      have S0 := HX.out.2.1.1
      have HXd : Hid (Own (w.heap.size + 1) (DA ++ DB) vX wX.drew ∧ RsS w.heap.size S T K (.slice a L.length cap) s wX.drew ∧ Below w.heap.size w wX.drew) := Lib.hid ⟨HX.out.1.below (Below.refl _ _).drew, HX.out.2.1.below (Below.refl _ _).drew HX.out.2.1.lt, HX.out.2.2.drew⟩
      have S1 := HXd.out.2.1.1
      refine wp_meetX 5 20 9 (fun v wx => Hid (Own (w.heap.size + 1) (DA ++ DB ++ DE ++ DC) v wx ∧ RsS w.heap.size S T K (.slice a L.length cap) s wx ∧ Below w.heap.size w wx)) ?_ ?_
      · intro G hG
        go_region_held3 (fun u => u.cell? ⟨w.heap.size, 0, none⟩ = some (.int .i64 S) ∧ u.cell? ⟨w.heap.size, 1, none⟩ = some (.int .i64 T) ∧ u.cell? ⟨w.heap.size, 2, none⟩ = some (.int .i64 K) ∧ u.cell? ⟨w.heap.size, 3, none⟩ = some (.slice a L.length cap) ∧ u.cell? ⟨w.heap.size, 4, none⟩ = some (.bool s)) (first | with_reducible assumption | go_keep) (first
          | (go_at_call 60; (with_reducible refine (HFL.out _).mono ?_); rintro e w5 ⟨v5, rfl, ho5, hb5⟩; (have K5 := Lib.hid (fun g e => (World.ownsRow.lt O4.out.2 g e).2)); have O5 := Lib.hid (O4.out.below hb5); have U5 := Lib.hid ho5; have C5 := Lib.hid (C4.out.below hb5 C4.out.lt); have B5 := Lib.hid (bgo B4.out hb5); have Sa5 := C5.out.1; clear ho5 hb5)
          | (go_at_call 60; (with_reducible refine (HFL.out _).mono ?_); rintro e w5 ⟨v5, rfl, ho5, hb5⟩; (have K5 := Lib.hid (fun g e => (World.ownsRow.lt O3.out.2 g e).2)); have O5' := Lib.hid (O3.out.below hb5); have R5' := Lib.hid (R3.out.below hb5); have U5' := Lib.hid ho5; have C5' := Lib.hid (C3.out.below hb5 C3.out.lt); have B5' := Lib.hid (bgo B3.out hb5); have Sa5p := C5'.out.1; clear ho5 hb5)
          | (go_at_call 59; (with_reducible refine (HU4.out _).mono ?_); rintro e w3 ⟨v3, rfl, ho3, hb3⟩; have O3 := Lib.hid (HXd.out.1.below hb3); have R3 := Lib.hid ho3.rd; have C3 := Lib.hid (HXd.out.2.1.below hb3 HXd.out.2.1.lt); have B3 := Lib.hid (bgo HXd.out.2.2 hb3); have Sa3 := C3.out.1; clear ho3 hb3)
          | (refine step_appL8 rfl _ _ _ rfl (w.heap.size + 1) ((DA ++ DB) ++ DE) DC _ _ rfl rfl O5.out U5.out.rd.src C5.out.lt (by have := HLA.out; rw [List.length_append, List.length_append]; omega) ?_; (intro v6 w6 ho6 hb6 hl6; have O6 := Lib.hid ho6; have C6 := Lib.hid (C5.out.below hb6 (Nat.lt_succ_self _)); have B6 := Lib.hid (B5.out.trans (hb6.mono (Nat.le_succ _))); have Sa6 := C6.out.1; clear ho6 hb6 hl6))
          | (refine step_appL8 rfl _ _ _ rfl (w.heap.size + 1) (DA ++ DB) DE _ _ rfl rfl O5'.out R5'.out.src C5'.out.lt (by have := HLA.out; rw [List.length_append]; omega) ?_; (intro v4 w4 ho4 hb4 hl4; have O5 := Lib.hid ho4; have U5 := Lib.hid (U5'.out.aside hl4 K5.out); have C5 := Lib.hid (C5'.out.below hb4 (Nat.lt_succ_self _)); have B5 := Lib.hid (B5'.out.trans (hb4.mono (Nat.le_succ _))); have Sa5 := C5.out.1; clear ho4 hb4 hl4))
          | (refine step_appL8 rfl _ _ _ rfl (w.heap.size + 1) (DA ++ DB) DE _ _ rfl rfl O3.out R3.out.src C3.out.lt (by have := HLA.out; rw [List.length_append]; omega) ?_; (intro v4 w4 ho4 hb4 hl4; have O4 := Lib.hid ho4; have C4 := Lib.hid (C3.out.below hb4 (Nat.lt_succ_self _)); have B4 := Lib.hid (B3.out.trans (hb4.mono (Nat.le_succ _))); have Sa4 := C4.out.1; clear ho4 hb4 hl4)))
        all_goals
          exact hG _ _ _ ⟨[_, _, _, _, _, _, _, _, _], rfl, rfl⟩ (Lib.hid ⟨O6.out, C6.out, B6.out⟩)
      intro aY wY vY hoff HY
      obtain ⟨us, hus, rfl⟩ := hoff
      match us, hus with
      | [y0, y1, y2, y3, y4, y5, y6, y7, y8], _ =>
        simp only [List.set_cons_succ, List.set_cons_zero, List.take_succ_cons, List.take_zero, List.drop_succ_cons, List.drop_zero, List.cons_append, List.nil_append]
        clear S0 S1 HX HXd HU4 HFL
        have HHL : Hid (hd.length ≤ 45) := Lib.hid (by have := HLA.out; rw [HH9.out]; simp only [List.length_append]; omega)
        obtain ⟨⟨p0, p1, p2, p3, p4⟩, -⟩ := HY.out.2.1
        go_upto_region 7 with (first
          | (go_at_call 59; (with_reducible refine (HU3.out _).mono ?_); rintro e w4 ⟨v4, rfl, ho4, hb4⟩; have O4 := Lib.hid (HY.out.1.below hb4); have R4 := Lib.hid ho4.rd.src; have C4 := Lib.hid (HY.out.2.1.below hb4 HY.out.2.1.lt); have B4 := Lib.hid (bgo HY.out.2.2 hb4); clear ho4 hb4)
          | (at_builtin; refine wp_appL8 rfl _ _ _ rfl (w.heap.size + 1) (DA ++ DB ++ DE ++ DC) DD _ _ rfl rfl O4.out R4.out C4.out.lt (by have := HLA.out; simp only [List.length_append]; omega) ?_; (intro v5 w5 ho5 hb5 hl5; have O5 := Lib.hid ho5; have C5 := Lib.hid (C4.out.below hb5 (Nat.lt_succ_self _)); have B5 := Lib.hid (B4.out.trans (hb5.mono (Nat.le_succ _))); clear ho5 hb5 hl5 O4 R4 C4 B4)))
        have HI : Hid (Own (w.heap.size + 1) (hd ++ levsB (L.take 0)) v5 w5 ∧ RsS w.heap.size S T K (.slice a L.length cap) s w5 ∧ Below w.heap.size w w5) := Lib.hid ⟨by rw [List.take_zero, levsB_nil, List.append_nil, HH9.out]; exact O5.out, C5.out, B5.out⟩
        clear HY HH9 O5 C5 B5 HU3 p0 p1 p2 p3 p4
        go_wp2
        go_loopw [5, 6, 7] (fun b i _ wr => ∃ k : Nat, k ≤ L.length ∧ i = .int .i64 (k : Int) ∧ Hid (Own (w.heap.size + 1) (hd ++ levsB (L.take k)) b wr ∧ RsS w.heap.size S T K (.slice a L.length cap) s wr ∧ Below w.heap.size w wr)) (fun _ i _ _ => L.length - (intOf i).toNat)
        case atStart => exact ⟨0, by omega, rfl, HI⟩
        case round =>
          clear HI
          obtain ⟨k, hk, rfl, HI⟩ := hrel
          obtain ⟨⟨p0, p1, p2, p3, p4⟩, -⟩ := HI.out.2.1
          by_cases hlt : k < L.length
          · have hlt2 : (k : Int) < (L.length : Int) := by omega
            have hk0 : (0 : Int) ≤ (k : Int) := by omega
            have hlL : (L.length : Int) ≤ 41 := by omega
            obtain ⟨b', o', u, m, c', rfl, -, hb', hc0, hr, hm⟩ := HR.out.at_ hlt
            have HCB := Lib.hid (fun (x : World) (hx : Below w.heap.size w x) => ((bcell hx).1 b' (o' + k) hb').trans hc0)
            have hc := HCB.out _ HI.out.2.2
            have hlv := HLV.out k
            have hbl := HBL.out k
            have hkl : (L.take k).length ≤ 41 := by rw [List.length_take]; omega
            have HSS := Lib.hid (HSU.out k hlt)
            have hhl := HHL.out
            clear hc0 hb'
            subst hm
            generalize L.getD k [] = l at *
            have HRow := Lib.hid hr
            have HKY := Lib.hid hlv.1
            have hl31 := hlv.2
            clear hr hlv
            obtain ⟨A, hA⟩ : ∃ A, A = hd ++ levsB (L.take k) := ⟨_, rfl⟩
            have HA := Lib.hid hA
            have HLA2 : Hid (A.length ≤ 60000) := Lib.hid (by rw [hA, List.length_append]; omega)
            have HUL := Lib.hid (fun w => ruint_any l.length w (by omega))
            have HLN : Hid (A.length + (uintB l.length).length ≤ 140737488355328) := Lib.hid (by have := (uintB_len l.length (by omega)).2; rw [hA, List.length_append]; omega)
            have ho5 := HI.out.1
            rw [← hA] at ho5
            have O1 := Lib.hid ho5
            have C1 := Lib.hid HI.out.2.1
            have B1 := Lib.hid HI.out.2.2
            clear HI ho5 hA hbl hhl hkl
            obtain ⟨UL, hUL⟩ : ∃ UL, UL = uintB l.length := ⟨_, rfl⟩
            rw [← hUL] at HUL HLN
            have HUE := Lib.hid hUL
            have HUE9 : Hid (UL.length ≤ 9) := Lib.hid (by rw [hUL]; exact (uintB_len l.length (by omega)).2)
            clear hUL
            go_wp2_with (first
              | (go_at_call 59; (with_reducible refine (HUL.out _).mono ?_); rintro e w4 ⟨v4, rfl, ho4, hb4⟩; have O4 := Lib.hid (O1.out.below hb4); have R4 := Lib.hid ho4.rd.src; have C4 := Lib.hid (C1.out.go hb4); have B4 := Lib.hid (bgo B1.out hb4); clear ho4 hb4 O1 C1 B1)
              | (at_builtin; refine wp_appL8 rfl _ _ _ rfl (w.heap.size + 1) A UL _ _ rfl rfl O4.out R4.out C4.out.lt HLN.out ?_; (intro v5 w5 ho5 hb5 hl5; have O5 := Lib.hid ho5; have C5 := Lib.hid (C4.out.below hb5 (Nat.lt_succ_self _)); have B5 := Lib.hid (B4.out.trans (hb5.mono (Nat.le_succ _))); clear ho5 hb5 hl5 O4 R4 C4 B4)))
            have HI2 : Hid (Own (w.heap.size + 1) (A ++ UL ++ keysB (l.take 0)) v5 w5 ∧ RsS w.heap.size S T K (.slice (some ⟨b', o', none⟩) L.length cap) s w5 ∧ Below w.heap.size w w5) := Lib.hid ⟨by rw [List.take_zero, keysB_nil, List.append_nil]; exact O5.out, C5.out, B5.out⟩
            clear O5 C5 B5 hc p0 p1 p2 p3 p4
            go_loopw [5, 7] (fun b i wr2 => ∃ q : Nat, q ≤ l.length ∧ i = .int .i64 (q : Int) ∧ Hid (Own (w.heap.size + 1) (A ++ UL ++ keysB (l.take q)) b wr2 ∧ RsS w.heap.size S T K (.slice (some ⟨b', o', none⟩) L.length cap) s wr2 ∧ Below w.heap.size w wr2)) (fun _ i _ => l.length - (intOf i).toNat)
            case atStart => exact ⟨0, by omega, rfl, HI2⟩
            case round =>
              clear HI2
              obtain ⟨q, hq, rfl, HI2⟩ := hrel
              obtain ⟨⟨p0, p1, p2, p3, p4⟩, -⟩ := HI2.out.2.1
              have hc := HCB.out _ HI2.out.2.2
              by_cases hlq : q < l.length
              · have hlq2 : (q : Int) < (l.length : Int) := by omega
                have hq0 : (0 : Int) ≤ (q : Int) := by omega
                have hlI : (l.length : Int) ≤ 31 := by omega
                obtain ⟨b3, o3, rfl, -, hd1⟩ := (HRow.out.below HI2.out.2.2).cell hlq
                have HKS := Lib.hid (keysB_succ hlq)
                have hkey := HKY.out _ (getD_mem (d := ByteArray.empty) hlq)
                have hla := HLA2.out
                have hkb := keysB_len (l := l.take q) (fun x hx => HKY.out x (List.mem_of_mem_take hx))
                have hlq3 : (l.take q).length ≤ 31 := by rw [List.length_take]; omega
                have hul := HUE9.out
                generalize l.getD q ByteArray.empty = X at *
                have hk32 := keyK_len hkey
                have htx := textK_len hkey
                have hxs : X.size ≤ 65536 := by rw [byt_len] at hk32; omega
                have HTX := Lib.hid (fun w => rtext_any X w hxs)
                have htb : textB (byt X) = uintB X.size ++ byt X := by unfold textB; rw [if_pos (by omega), byt_len]
                rw [← htb] at HTX
                have HLM : Hid ((A ++ UL ++ keysB (l.take q)).length + (textB (byt X)).length ≤ 140737488355328) := Lib.hid (by rw [List.length_append, List.length_append]; omega)
                clear htb
                generalize textB (byt X) = TB at *
                have O1 := Lib.hid HI2.out.1
                have C1 := Lib.hid HI2.out.2.1
                have B1 := Lib.hid HI2.out.2.2
                clear HI2 hkb hlq3 hul htx hkey hla hk32 hxs
                go_wp2_with (first
                  | (go_at_call 61; (with_reducible refine (HTX.out _).mono ?_); rintro e w4 ⟨v4, rfl, ho4, hb4⟩; have O4 := Lib.hid (O1.out.below hb4); have R4 := Lib.hid ho4.rd.src; have C4 := Lib.hid (C1.out.go hb4); have B4 := Lib.hid (bgo B1.out hb4); clear ho4 hb4 O1 C1 B1)
                  | (at_builtin; refine wp_appL8 rfl _ _ _ rfl (w.heap.size + 1) (A ++ UL ++ keysB (l.take q)) TB _ _ rfl rfl O4.out R4.out C4.out.lt HLM.out ?_; (intro v5 w5 ho5 hb5 hl5; have O5 : Hid (Own (w.heap.size + 1) (A ++ UL ++ keysB (l.take (q + 1))) v5 w5) := Lib.hid (by rw [HKS.out]; simpa only [List.append_assoc] using ho5); have C5 := Lib.hid (C4.out.below hb5 (Nat.lt_succ_self _)); have B5 := Lib.hid (B4.out.trans (hb5.mono (Nat.le_succ _))); clear ho5 hb5 hl5)))
                exact ⟨⟨q + 1, by omega, by go_num, Lib.hid ⟨O5.out, C5.out, B5.out⟩⟩, by simp [intOf]; omega⟩
              · obtain rfl : q = l.length := by omega
                have hnlt : ¬ (l.length : Int) < (l.length : Int) := by omega
                have HN : Hid (A ++ UL ++ keysB (l.take l.length) = hd ++ levsB (L.take (k + 1))) := Lib.hid (by rw [HSS.out, HA.out, List.take_length, HUE.out]; simp [levB])
                have O6 := Lib.hid HI2.out.1
                rw [HN.out] at O6
                have C6 := Lib.hid HI2.out.2.1
                have B6 := Lib.hid HI2.out.2.2
                clear HI2
                go_wp2
                exact ⟨⟨k + 1, by omega, by go_num, Lib.hid ⟨O6.out, C6.out, B6.out⟩⟩, by simp [intOf]; omega⟩
          · obtain rfl : k = L.length := by omega
            have hnlt : ¬ (L.length : Int) < (L.length : Int) := by omega
            have O6 := Lib.hid HI.out.1
            have B6 := Lib.hid HI.out.2.2
            rw [HT.out] at O6
            clear HI
            go_wp2
            go_ret2
            exact ⟨_, rfl, O6.out.mono (Nat.le_succ _), B6.out⟩
  · rw [if_neg hE]
    have hE2 : (valR S T K L != 0) = true := by simpa using hE
    generalize valR S T K L = E at *
    clear hE
    go_enter Tryd.func30, Tryd.ntmps30
    go_wp2_with (go_at_call 21; (with_reducible refine (HV.out _ B0.out).mono ?_); rintro e w2 ⟨rfl, hb2⟩; have B2 := Lib.hid (bgo B0.out hb2); clear hb2)
    go_ret2
    exact ⟨_, rfl, Own.empty _ _, B2.out⟩
  
theorem DS.fail {W : World} {g : Nat} {R : List Int} {f : Bool} {w : World} (h : DS W g R f w) : DS W g R true (w.setCell ⟨g, 1, none⟩ (.bool true)) := by
  obtain ⟨v, ⟨⟨h0, h1⟩, f0, f1⟩, h2⟩ := h
  exact ⟨v, ⟨⟨by go_simp, by go_simp⟩, by go_simp, by go_simp⟩, h2⟩
theorem Tn.set {g : Nat} (w : World) (o : Nat) (x : Value) : Tn g w (w.setCell ⟨g, o, none⟩ x) := ⟨(Below.refl g w).setCell (p := ⟨g, o, none⟩) (Nat.le_refl _) x, by simp, fun b _ hn => Below.heap_setCell _ ⟨g, o, none⟩ _ _ hn⟩
theorem Tn.bel {g : Nat} {w u v : World} (h : Tn g w u) (hb : Below w.heap.size u v) (hg : g < w.heap.size) : Tn g w v := ⟨h.1.trans (hb.mono (Nat.le_of_lt hg)), Nat.le_trans h.2.1 hb.size, fun b hl hn => (hb.block b hl).trans (h.2.2 b hl hn)⟩
theorem Tn.below {g B : Nat} {w w' : World} (h : Tn g w w') (hB : B ≤ g) : Below B w w' := h.1.mono hB
theorem DS.belw {W : World} {g B : Nat} {R : List Int} {f : Bool} {w w' : World} (h : DS W g R f w) (hb : Below B w w') (hg : g < B) : DS W g R f w' := h.keep (hb.block g hg)
set_option maxRecDepth 100000 in
set_option maxHeartbeats 2000000 in
theorem level_any {W : World} {g : Nat} {R : List Int} {f : Bool} {w : World} (h : DS W g R f w) (hb : Below W.heap.size W w) (hW : W.heap.size ≤ g) :
    Calls Tryd.prog 63 #[.pointer (some ⟨g, 0, none⟩)] w fun e w' => ∃ u, e = .returned u ∧ OwnS w.heap.size (lvA R) u w' ∧ DS W g (lvR R) (f || lvF R) w' ∧ Tn g w w' := by
  have hg := h.size
  have HG := Lib.hid hg
  have hbd := decU_bd h.byt
  have HY := Lib.hid (restU_byt h.byt)
  have HA : Hid (∀ N : Nat, (decU R).1 = (N : Int) → N ≤ 32 → lvA R = ksK (restU R) N ∧ lvR R = rsK (restU R) N ∧ (f || lvF R) = flK (f || (decU R).2.2 != 0) (restU R) N) := Lib.hid (fun N hN h32 => by
    unfold lvA lvR lvF nL
    rw [hN, if_neg (by omega), if_neg (by omega), if_neg (by omega), Int.toNat_natCast, flK_or]
    exact ⟨rfl, rfl, rfl⟩)
  have HB : Hid (32 < (decU R).1 → lvA R = [] ∧ lvR R = restU R ∧ (f || lvF R) = true) := Lib.hid (fun hx => by
    unfold lvA lvR lvF nL
    rw [if_pos hx, if_pos hx, if_pos hx]
    exact ⟨rfl, rfl, Bool.or_true f⟩)
  have hd := dnum_any h hb
  have HBW := Lib.hid hb
  clear h hb
  generalize lvA R = XA at *
  generalize lvR R = XR at *
  generalize (f || lvF R) = XF at *
  generalize (f || (decU R).2.2 != 0) = F1 at *
  generalize restU R = R1 at *
  generalize (decU R).1 = n at *
  obtain ⟨n0, n1, -⟩ := hbd
  go_enter Tryd.func63, Tryd.ntmps63
  go_wp2_with fail
  go_at_call 62
  refine hd.mono ?_
  rintro e w2 ⟨rfl, hd2, ho2⟩
  have D2 := Lib.hid hd2
  have T2 := Lib.hid ho2.tn
  clear hd hd2 ho2
  by_cases hx : 32 < n
  · obtain ⟨rfl, rfl, rfl⟩ := HB.out hx
    obtain ⟨v8, ⟨⟨z0, z1⟩, y0, y1⟩, -⟩ := D2.out
    clear HA HB HY HBW
    go_wp2
    go_ret
    exact ⟨_, rfl, OwnS.empty _ _, D2.out.fail, T2.out.trans (Tn.set _ _ _)⟩
  · obtain ⟨N, rfl⟩ : ∃ N : Nat, n = (N : Int) := ⟨n.toNat, by omega⟩
    obtain ⟨rfl, rfl, rfl⟩ := HA.out N rfl (by omega)
    have hN : N ≤ 32 := by omega
    have hN2 : ¬ (32 : Int) < (N : Int) := by omega
    have HI : Hid (OwnS w.heap.size (ksK R1 0) (.slice none 0 0) w2 ∧ DS W g (rsK R1 0) (flK F1 R1 0) w2 ∧ Tn g w w2) := Lib.hid ⟨OwnS.empty _ _, D2.out, T2.out⟩
    clear HA HB D2 T2 hx
    go_wp2
    go_loopw [4, 13] (fun v i wr => ∃ k : Nat, k ≤ N ∧ i = .int .i64 (k : Int) ∧ Hid (OwnS w.heap.size (ksK R1 k) v wr ∧ DS W g (rsK R1 k) (flK F1 R1 k) wr ∧ Tn g w wr)) (fun _ i _ => N - (intOf i).toNat)
    case atStart => exact ⟨0, by omega, rfl, HI⟩
    case round =>
      clear HI
      obtain ⟨k, hk, rfl, HI⟩ := hrel
      by_cases hlt : k < N
      · have hlt2 : (k : Int) < (N : Int) := by omega
        have hd := dtxt_any HI.out.2.1 (HBW.out.trans (HI.out.2.2.below hW))
        have HKS : Hid (ksK R1 (k + 1) = ksK R1 k ++ [strOfNums (decT (rsK R1 k)).1]) := Lib.hid rfl
        have HLN : Hid ((ksK R1 k).length + [strOfNums (decT (rsK R1 k)).1].length ≤ 8796093022208) := Lib.hid (by rw [ksK_len, List.length_singleton]; omega)
        have HD9 : Hid (∀ u, DS W g (restT (rsK R1 k)) (flK F1 R1 k || (decT (rsK R1 k)).2.2 != 0) u → DS W g (rsK R1 (k + 1)) (flK F1 R1 (k + 1)) u) := Lib.hid (fun u h => h)
        have O0 := Lib.hid HI.out.1
        have T0 := Lib.hid HI.out.2.2
        clear HI
        generalize strOfNums (decT (rsK R1 k)).1 = X at *
        generalize restT (rsK R1 k) = R9 at *
        generalize (flK F1 R1 k || (decT (rsK R1 k)).2.2 != 0) = F9 at *
        go_wp2_with (first
          | (go_at_call 82; (with_reducible refine hd.mono ?_); rintro e w4 ⟨rfl, hd4, ho4⟩; have D4 := Lib.hid hd4; have O4 := Lib.hid (O0.out.tn ho4.tn HG.out); have T4 := Lib.hid (T0.out.trans ho4.tn); clear hd4 ho4 O0 T0)
          | (at_builtin; refine wp_appS rfl _ _ _ rfl w.heap.size (ksK R1 k) [X] _ _ rfl rfl (O4.out.alloc _) (OwnS.one X w4).rd.src (by have := T4.out.2.1; simp; omega) HLN.out ?_; (intro v5 w5 ho5 hb5; have O5 : Hid (OwnS w.heap.size (ksK R1 (k + 1)) v5 w5) := Lib.hid (by rw [HKS.out]; exact ho5); have D5 := Lib.hid (HD9.out _ ((D4.out.keep (Below.heap_alloc _ _ _ D4.out.size)).belw hb5 HG.out)); have T5 := Lib.hid ((T4.out.trans (Tn.of (b1 _) D4.out.size)).bel hb5 HG.out); clear ho5 hb5 O4 D4 T4)))
        exact ⟨⟨k + 1, by omega, by go_num, Lib.hid ⟨O5.out, D5.out, T5.out⟩⟩, by simp [intOf]; omega⟩
      · obtain rfl : k = N := by omega
        have hnlt : ¬ (k : Int) < (k : Int) := by omega
        go_wp2
        go_ret
        exact ⟨_, rfl, HI.out⟩
theorem MixL.tn {W w w' : World} {g : Nat} {L : List (List ByteArray)} {us : List Value} {v : Value} (h : MixL W W.heap.size L us v w) (ho : Tn g w w') (hg : g < W.heap.size) : MixL W W.heap.size L us v w' :=
  ⟨h.1.keep (fun b hb e => ho.2.2 b hb (by have := (h.1.lt e).1; omega)), h.2.1, fun j hj => (h.2.2 j hj).keep ⟨ho.2.1, fun b hb hl _ => ho.2.2 b hl (by omega)⟩⟩
theorem MixL.st {W w : World} {g o : Nat} {x : Value} {L : List (List ByteArray)} {us : List Value} {v : Value} (h : MixL W W.heap.size L us v w) (hg : g < W.heap.size) : MixL W W.heap.size L us v (w.setCell ⟨g, o, none⟩ x) := h.tn (Tn.set _ _ _) hg
theorem MixL.shape {W w : World} {B : Nat} {L : List (List ByteArray)} {us : List Value} {v : Value} (h : MixL W B L us v w) : ∃ a cap, v = .slice a L.length cap := by
  obtain ⟨a, c, e⟩ := h.1.rd.shape
  rw [h.2.1] at e
  exact ⟨a, c, e⟩
/-- The state of Decode: the result's cells, the reader, the summary under way. -/
def DL (W : World) (g9 : Nat) (S T K : Int) (v : Value) (s : Bool) (R : List Int) (F : Bool) (w : World) : Prop :=
  RsS W.heap.size 0 0 0 (.slice none 0 0) false w ∧ DS W (W.heap.size + 1) R F w ∧ RsS g9 S T K v s w ∧ Below W.heap.size W w ∧ W.heap.size + 2 ≤ g9
section
variable {W w w' : World} {g9 : Nat} {S T K : Int} {v : Value} {s : Bool} {R R' : List Int} {F F' : Bool}
theorem DL.top (h : DL W g9 S T K v s R F w) : RsS g9 S T K v s w := h.2.2.1
theorem DL.res (h : DL W g9 S T K v s R F w) : RsS W.heap.size 0 0 0 (.slice none 0 0) false w := h.1
theorem DL.ds (h : DL W g9 S T K v s R F w) : DS W (W.heap.size + 1) R F w := h.2.1
theorem DL.bel (h : DL W g9 S T K v s R F w) : Below W.heap.size W w := h.2.2.2.1
theorem DL.room (h : DL W g9 S T K v s R F w) : W.heap.size + 2 ≤ g9 ∧ g9 < w.heap.size := ⟨h.2.2.2.2, h.2.2.1.lt⟩
theorem DL.keep (h : DL W g9 S T K v s R F w) (hb : Below (g9 + 1) w w') : DL W g9 S T K v s R F w' := by
  obtain ⟨h1, h2, h3, h4, h5⟩ := h
  exact ⟨h1.keep (hb.block _ (by omega)), h2.keep (hb.block _ (by omega)), h3.keep (hb.block _ (by omega)), h4.trans (hb.mono (by omega)), h5⟩
theorem DL.go (h : DL W g9 S T K v s R F w) (hb : Below w.heap.size w w') : DL W g9 S T K v s R F w' := h.keep (hb.mono h.room.2)
theorem DL.drew (h : DL W g9 S T K v s R F w) : DL W g9 S T K v s R F w.drew := h.go (Below.refl _ _).drew
theorem DL.turn (h : DL W g9 S T K v s R F w) (ho : Tn (W.heap.size + 1) w w') (hd : DS W (W.heap.size + 1) R' F' w') : DL W g9 S T K v s R' F' w' := by
  obtain ⟨h1, h2, h3, h4, h5⟩ := h
  exact ⟨h1.keep (ho.2.2 _ h1.lt (by omega)), hd, h3.keep (ho.2.2 _ h3.lt (by omega)), h4.trans (ho.1.mono (by omega)), h5⟩
theorem DL.put (h : DL W g9 S T K v s R F w) (a : Option Addr) (n c : Nat) : DL W g9 S T K (.slice a n c) s R F (w.setCell ⟨g9, 3, none⟩ (.slice a n c)) := by
  obtain ⟨h1, h2, ⟨⟨p0, p1, p2, p3, p4⟩, f0, f1, f2, f3, f4⟩, h4, h5⟩ := h
  exact ⟨h1.keep (Below.heap_setCell _ ⟨g9, 3, none⟩ _ _ (by show W.heap.size ≠ g9; omega)), h2.keep (Below.heap_setCell _ ⟨g9, 3, none⟩ _ _ (by show W.heap.size + 1 ≠ g9; omega)), ⟨⟨by go_simp, by go_simp, by go_simp, by go_simp, by go_simp⟩, by go_simp, by go_simp, by go_simp, by go_simp, by go_simp⟩, h4.setCell (p := ⟨g9, 3, none⟩) (by show W.heap.size ≤ g9; omega) _, h5⟩
end
set_option maxRecDepth 100000 in
set_option maxHeartbeats 4000000 in
theorem pdecR_any (L : List Int) (v : Value) (w : World) (h : Rd L v w) :
    Calls Tryd.prog 31 #[v] w fun e w' => ∃ u, e = .returned (.tuple #[u, .int .i64 (errR L)]) ∧ RbR w.heap.size (decR L) u w' ∧ Below w.heap.size w w' := by
  obtain ⟨a, len, cap, rfl⟩ : ∃ a len cap, v = .slice a len cap := by
    obtain ⟨_, a, cap, hv, _⟩ := h
    exact ⟨a, _, cap, hv⟩
  have C0 := Lib.hid ((RsS.new 0 0 0 (.slice none 0 0) false 28 w).below (b1 (.cells #[.slice a len cap, .bool false] 84)) (by simp))
  have D0 : Hid (DS w (w.heap.size + 1) L false ((w.alloc (.cells #[.int .i64 0, .int .i64 0, .int .i64 0, .slice none 0 0, .bool false] 28)).alloc (.cells #[.slice a len cap, .bool false] 84))) :=
    Lib.hid ⟨.slice a len cap, ⟨⟨by go_simp, by go_simp⟩, by go_simp, by go_simp⟩, h⟩
  have B0 := Lib.hid (b2 (a := w) (.cells #[.int .i64 0, .int .i64 0, .int .i64 0, .slice none 0 0, .bool false] 28) (.cells #[.slice a len cap, .bool false] 84))
  have HBD := Lib.hid (headR_bd h.1)
  have HBY := Lib.hid (headR_byt h.1)
  have HNO := Lib.hid (decR_no (L := L))
  have HYE := Lib.hid (decR_yes (L := L))
  have HOK := Lib.hid (show OkR L ↔ qX L ≤ 1 ∧ qN L ≤ 41 ∧ flV (qF L) (qR L) (qN L).toNat = false ∧ rsV (qR L) (qN L).toNat = [] ∧ valR (qS L) (qT L) (qK L) (lsV (qR L) (qN L).toNat) = 0 from Iff.rfl)
  clear h
  generalize decR L = RES at *
  generalize errR L = REE at *
  generalize OkR L = OK at *
  go_enter Tryd.func31, Tryd.ntmps31
  go_wp2_with fail
  go_at_call 62
  refine (dnum_any D0.out B0.out).mono ?_
  rintro e w2 ⟨rfl, hd2, ho2⟩
  have D2 := Lib.hid hd2
  have B2 := Lib.hid (B0.out.trans (ho2.1.mono (Nat.le_succ _)))
  have C2 := Lib.hid (C0.out.keep (ho2.2 _ (by omega)))
  clear hd2 ho2 D0 B0 C0
  go_wp2_with fail
  go_at_call 62
  refine (dnum_any D2.out B2.out).mono ?_
  rintro e w3 ⟨rfl, hd3, ho3⟩
  have D3 := Lib.hid hd3
  have B3 := Lib.hid (B2.out.trans (ho3.1.mono (Nat.le_succ _)))
  have C3 := Lib.hid (C2.out.keep (ho3.2 _ (by omega)))
  clear hd3 ho3 D2 B2 C2
  go_wp2_with fail
  go_at_call 62
  refine (dnum_any D3.out B3.out).mono ?_
  rintro e w4 ⟨rfl, hd4, ho4⟩
  have D4 := Lib.hid hd4
  have B4 := Lib.hid (B3.out.trans (ho4.1.mono (Nat.le_succ _)))
  have C4 := Lib.hid (C3.out.keep (ho4.2 _ (by omega)))
  clear hd4 ho4 D3 B3 C3
  go_wp2_with fail
  go_at_call 62
  refine (dnum_any D4.out B4.out).mono ?_
  rintro e w6 ⟨rfl, hd6, ho6⟩
  have D6 := Lib.hid hd6
  have B6 := Lib.hid (B4.out.trans (ho6.1.mono (Nat.le_succ _)))
  have C6 := Lib.hid (C4.out.keep (ho6.2 _ (by omega)))
  clear hd6 ho6 D4 B4 C4
  go_wp2_with fail
  go_at_call 62
  refine (dnum_any D6.out B6.out).mono ?_
  rintro e w5 ⟨rfl, hd5, ho5⟩
  have D5 := Lib.hid (show DS w (w.heap.size + 1) (qR L) (qF L) w5 from hd5)
  have B5 := Lib.hid (B6.out.trans (ho5.1.mono (Nat.le_succ _)))
  have C5 := Lib.hid (C6.out.keep (ho5.2 _ (by omega)))
  clear hd5 ho5 D6 B6 C6
  rw [show (decU L).1 = qS L from rfl, show (decU (restU L)).1 = qT L from rfl, show (decU (restU (restU L))).1 = qK L from rfl, show (decU (restU (restU (restU L)))).1 = qX L from rfl, show (decU (restU (restU (restU (restU L))))).1 = qN L from rfl]
  generalize qS L = S at *
  generalize qT L = T at *
  generalize qK L = K at *
  generalize qX L = x at *
  generalize qN L = n at *
  generalize qF L = F at *
  generalize qR L = R at *
  obtain ⟨⟨s0, s1⟩, ⟨t0, t1⟩, ⟨u0, u1⟩, ⟨x0, x1⟩, n0, n1⟩ := HBD.out
  by_cases hx : 1 < x ∨ 41 < n
  · obtain ⟨e1, e2⟩ := HNO.out (fun h => by have := HOK.out.1 h; omega)
    subst e1 e2
    obtain ⟨⟨p0, p1, p2, p3, p4⟩, f0, f1, f2, f3, f4⟩ := C5.out
    clear HBD HBY HNO HYE HOK D5 C5
    rcases hx with hx | hx
    all_goals
      go_wp2
    all_goals
      refine bodyPost_ret (v := .tuple #[.agg #[.int .i64 0, .int .i64 0, .int .i64 0, .slice none 0 0, .bool false], .int .i64 2]) (by simp [results, Tryd.results31, go_sem, *]) rfl ⟨_, rfl, ⟨none, 0, 0, rfl, RdB.none_ _ _⟩, ?_⟩
      exact bsetB (bsetB (bsetB (bsetB (bsetB B5.out _ _ _ (Nat.le_refl _)) _ _ _ (Nat.le_refl _)) _ _ _ (Nat.le_refl _)) _ _ _ (Nat.le_refl _)) _ _ _ (Nat.le_refl _)
  · obtain ⟨N, rfl⟩ : ∃ N : Nat, n = (N : Int) := ⟨n.toNat, by omega⟩
    rw [Int.toNat_natCast] at HOK HYE
    have hx1 : x ≤ 1 := by omega
    have hN : N ≤ 41 := by omega
    have HNB := Lib.hid (And.intro hx1 hN)
    have HSB := Lib.hid (⟨⟨s0, s1⟩, t0, t1⟩ : (0 ≤ S ∧ S ≤ 4611686018427387904) ∧ 0 ≤ T ∧ T ≤ 4611686018427387904)
    obtain ⟨W9, hW9⟩ : ∃ W9 : World, W9 = (w5.alloc (.cells #[.int .i64 S, .int .i64 T, .int .i64 K, .slice none 0 0, .bool (x == 1)] 28)) := ⟨_, rfl⟩
    have HW9 : Hid (W9.heap.size = w5.heap.size + 1) := Lib.hid (by rw [hW9]; simp)
    have HI : Hid (∃ us v, DL w w5.heap.size S T K v (x == 1) (rsV R 0) (flV F R 0) (w5.alloc (.cells #[.int .i64 S, .int .i64 T, .int .i64 K, .slice none 0 0, .bool (x == 1)] 28)) ∧ MixL W9 W9.heap.size (lsV R 0) us v (w5.alloc (.cells #[.int .i64 S, .int .i64 T, .int .i64 K, .slice none 0 0, .bool (x == 1)] 28))) :=
      Lib.hid ⟨[], .slice none 0 0, ⟨C5.out.below (b1 _) C5.out.lt, D5.out.keep (Below.heap_alloc _ _ _ D5.out.size), RsS.new _ _ _ _ _ _ _, bal B5.out _, D5.out.size⟩, MixL.empty _ _ _⟩
    clear hW9
    have hx2 : ¬ 1 < x := by omega
    have hN2 : ¬ (41 : Int) < (N : Int) := by omega
    clear hx hx1 hN HBD B5 C5 D5 s0 s1 t0 t1 u0 u1 x0 x1 n0 n1
    go_wp2
    clear hx2 hN2
    go_loopw [32] (fun i wr => ∃ k : Nat, k ≤ N ∧ i = .int .i64 (k : Int) ∧ Hid (∃ us v, DL w w5.heap.size S T K v (x == 1) (rsV R k) (flV F R k) wr ∧ MixL W9 W9.heap.size (lsV R k) us v wr)) (fun i _ => N - (intOf i).toNat)
    case atStart => exact ⟨0, by omega, rfl, HI⟩
    case round =>
      clear HI
      obtain ⟨k, hk, rfl, HI⟩ := hrel
      obtain ⟨us, v, hdl, hov⟩ := HI.out
      obtain ⟨a1, cap1, rfl⟩ := hov.shape
      rw [lsV_len] at hdl hov
      have DL0 := Lib.hid hdl
      have OV0 := Lib.hid hov
      clear HI hdl hov
      by_cases hlt : k < N
      · have hlt2 : (k : Int) < (N : Int) := by omega
        have HUL : Hid (us.length = k) := Lib.hid (by rw [OV0.out.2.1, lsV_len])
        have HLN : Hid (∀ u6 : Value, us.length + [u6].length ≤ 1099511627776) := Lib.hid (fun u6 => by have := HNB.out; rw [HUL.out, List.length_singleton]; omega)
        have DL1 := Lib.hid DL0.out.drew
        have OV1 := Lib.hid (OV0.out.below (Below.refl wr.heap.size wr).drew)
        have HW : Hid (w.heap.size ≤ w.heap.size + 1) := Lib.hid (Nat.le_succ _)
        have HRM := Lib.hid DL0.out.room
        have HGW : Hid (w.heap.size + 1 < W9.heap.size ∧ W9.heap.size ≤ wr.drew.heap.size ∧ w5.heap.size < W9.heap.size) := Lib.hid (by have := HW9.out; have h1 := HRM.out; have h2 := DL1.out.room; omega)
        have HLV := Lib.hid (lvA_len (rsV R k))
        have hc : wr.drew.cell? ⟨w5.heap.size, 3, none⟩ = some (.slice a1 k cap1) := DL1.out.top.1.2.2.2.1
        clear DL0 OV0
        go_wp2
        go_region_law (first
          | (go_simp; go_at_call 63; (with_reducible refine (level_any DL1.out.ds DL1.out.bel HW.out).mono ?_); rintro e w6 ⟨u6, rfl, ho6, hd6, ht6⟩; obtain ⟨a6, c6, rfl⟩ := ho6.rd.shape; have DL6 := Lib.hid (DL1.out.turn ht6 hd6); have R6 := Lib.hid (RowT.own (W := W9) (B := W9.heap.size) ho6 HGW.out.2.1); have OV6 := Lib.hid (OV1.out.tn ht6 HGW.out.1); have Z6 : Hid (W9.heap.size ≤ w6.heap.size) := Lib.hid (Nat.le_trans HGW.out.2.1 ht6.2.1); have t6 := DL6.out.top.1.2.2.2.1; have t7 := (DL6.out.go (b1 (.cells #[.slice a6 (lvA (rsV R k)).length c6] 57))).top.1.2.2.2.1; clear hd6 ho6 ht6)
          | (refine step_appV rfl _ _ _ rfl W9.heap.size us [.slice a6 (lvA (rsV R k)).length c6] _ _ rfl rfl (OV6.out.1.alloc _) (OwnV.one R6.out.1 w6).rd.src (by have := Z6.out; simp; omega) (HLN.out _) ?_; (intro v9 w9 ho9 hb9 hl9; have OV9 := Lib.hid ((OV6.out.below (b1 _)).snoc (R6.out.keep (.below (b1 _))) ho9 hl9); obtain ⟨a9, cap9, rfl⟩ := OV9.out.shape; have DL9 := Lib.hid ((DL6.out.go (b1 _)).keep (HW9.out ▸ hb9)); obtain ⟨⟨-, -, -, q2, -⟩, -, -, -, y2, -⟩ := DL9.out.top; clear ho9 hb9 hl9)))
        all_goals
          have HD : Hid (∃ us v, DL w w5.heap.size S T K v (x == 1) (rsV R (k + 1)) (flV F R (k + 1)) (w9.setCell ⟨w5.heap.size, 3, none⟩ (.slice a9 ((lsV R k).length + 1) cap9)) ∧ MixL W9 W9.heap.size (lsV R (k + 1)) us v (w9.setCell ⟨w5.heap.size, 3, none⟩ (.slice a9 ((lsV R k).length + 1) cap9))) :=
            Lib.hid ⟨us ++ [.slice a6 (lvA (rsV R k)).length c6], _, DL9.out.put a9 _ cap9, by have h := MixL.st (o := 3) (x := .slice a9 ((lsV R k).length + 1) cap9) OV9.out HGW.out.2.2; rw [List.length_append, List.length_singleton] at h; exact h⟩
          clear OV9 DL9 q2 y2
          go_wp2
          exact ⟨⟨k + 1, by omega, by go_num, HD⟩, by simp [intOf]; omega⟩
      · obtain rfl : k = N := by omega
        have hnlt : ¬ (k : Int) < (k : Int) := by omega
        obtain ⟨v8, ⟨⟨z0, z1⟩, -⟩, hrd8⟩ := DL0.out.ds
        obtain ⟨-, a8, cp8, rfl, hl8, hm8, -⟩ := hrd8
        obtain ⟨⟨p0, p1, p2, p3, p4⟩, f0, f1, f2, f3, f4⟩ := DL0.out.res
        obtain ⟨⟨q0, q1, q2, q3, q4⟩, y0, y1, y2, y3, y4⟩ := DL0.out.top
        have HB := Lib.hid DL0.out.bel
        have HRM := Lib.hid DL0.out.room
        by_cases hF : flV F R k = true
        · obtain ⟨e1, e2⟩ := HNO.out (fun h => by have := (HOK.out.1 h).2.2.1; rw [hF] at this; cases this)
          subst e1 e2
          rw [hF] at z1
          clear HNO HYE HOK HBY DL0 OV0 hF HSB
          go_wp2
          refine bodyPost_ret (v := .tuple #[.agg #[.int .i64 0, .int .i64 0, .int .i64 0, .slice none 0 0, .bool false], .int .i64 2]) (by simp [results, Tryd.results31, go_sem, *]) rfl ⟨_, rfl, ⟨none, 0, 0, rfl, RdB.none_ _ _⟩, ?_⟩
          exact bsetB (bsetB (bsetB (bsetB (bsetB HB.out _ _ _ (Nat.le_refl _)) _ _ _ (Nat.le_refl _)) _ _ _ (Nat.le_refl _)) _ _ _ (Nat.le_refl _)) _ _ _ (Nat.le_refl _)
        · have hF2 : flV F R k = false := by simpa using hF
          rw [hF2] at z1
          by_cases hR : rsV R k = []
          · have hL8 : (rsV R k).length = 0 := by rw [hR]; rfl
            rw [hL8] at z0
            have HV := Lib.hid (pvalR_any S T K (lsV R k) (x == 1) a1 k cap1 wr OV0.out.rd (lsV_lok HBY.out (by have := HNB.out; omega)))
            by_cases hE : valR S T K (lsV R k) = 0
            · obtain ⟨e1, e2⟩ := HYE.out (HOK.out.2 ⟨HNB.out.1, by have := HNB.out.2; omega, hF2, hR, hE⟩)
              have HRS := Lib.hid e1
              subst e2
              rw [hE] at HV
              clear HNO HYE HOK HBY hF hF2 hR hE hL8 hl8 hm8 e1
              go_wp2_with (go_at_call 20; (with_reducible refine HV.out.mono ?_); rintro e w10 ⟨rfl, hb10⟩; clear HB p0 p1 p2 p3 p4 f0 f1 f2 f3 f4 q0 q1 q2 q3 q4 y0 y1 y2 y3 y4; have DL10 := Lib.hid (DL0.out.go hb10); have OV10 := Lib.hid (OV0.out.below hb10); have HB := Lib.hid DL10.out.bel; obtain ⟨⟨p0, p1, p2, p3, p4⟩, f0, f1, f2, f3, f4⟩ := DL10.out.res; obtain ⟨⟨q0, q1, q2, q3, q4⟩, y0, y1, y2, y3, y4⟩ := DL10.out.top; clear hb10)
              refine bodyPost_ret (v := .tuple #[.agg #[.int .i64 S, .int .i64 T, .int .i64 K, .slice a1 k cap1, .bool (x == 1)], .int .i64 0]) (by simp [results, Tryd.results31, go_sem, *]) rfl ⟨_, rfl, ⟨a1, k, cap1, by rw [HRS.out], ?_⟩, ?_⟩
              · rw [HRS.out]
                have hlt9 : w.heap.size < W9.heap.size := by have := HRM.out; have := HW9.out; omega
                exact (((((OV10.out.st hlt9).st hlt9).st hlt9).st hlt9).st hlt9).rb (Nat.le_refl _) |>.mono (Nat.le_of_lt hlt9)
              · exact bsetB (bsetB (bsetB (bsetB (bsetB HB.out _ _ _ (Nat.le_refl _)) _ _ _ (Nat.le_refl _)) _ _ _ (Nat.le_refl _)) _ _ _ (Nat.le_refl _)) _ _ _ (Nat.le_refl _)
            · obtain ⟨e1, e2⟩ := HNO.out (fun h => hE (HOK.out.1 h).2.2.2.2)
              subst e1 e2
              have hE2 : (valR S T K (lsV R k) != 0) = true := by simpa using hE
              generalize valR S T K (lsV R k) = E at *
              clear HNO HYE HOK HBY hF hF2 hR hE hL8 hl8 hm8 OV0
              go_wp2_with (go_at_call 20; (with_reducible refine HV.out.mono ?_); rintro e w10 ⟨rfl, hb10⟩; clear HB p0 p1 p2 p3 p4 f0 f1 f2 f3 f4 q0 q1 q2 q3 q4 y0 y1 y2 y3 y4; have DL10 := Lib.hid (DL0.out.go hb10); have HB := Lib.hid DL10.out.bel; obtain ⟨⟨p0, p1, p2, p3, p4⟩, f0, f1, f2, f3, f4⟩ := DL10.out.res; clear hb10)
              refine bodyPost_ret (v := .tuple #[.agg #[.int .i64 0, .int .i64 0, .int .i64 0, .slice none 0 0, .bool false], .int .i64 2]) (by simp [results, Tryd.results31, go_sem, *]) rfl ⟨_, rfl, ⟨none, 0, 0, rfl, RdB.none_ _ _⟩, ?_⟩
              exact bsetB (bsetB (bsetB (bsetB (bsetB HB.out _ _ _ (Nat.le_refl _)) _ _ _ (Nat.le_refl _)) _ _ _ (Nat.le_refl _)) _ _ _ (Nat.le_refl _)) _ _ _ (Nat.le_refl _)
          · obtain ⟨e1, e2⟩ := HNO.out (fun h => hR (HOK.out.1 h).2.2.2.1)
            subst e1 e2
            have hL8 : (0 : Int) < ((rsV R k).length : Int) := by
              have := List.length_pos_iff.2 hR
              omega
            generalize (rsV R k).length = l8 at *
            clear HNO HYE HOK HBY hF hF2 hR OV0 DL0
            go_wp2
            refine bodyPost_ret (v := .tuple #[.agg #[.int .i64 0, .int .i64 0, .int .i64 0, .slice none 0 0, .bool false], .int .i64 2]) (by simp [results, Tryd.results31, go_sem, *]) rfl ⟨_, rfl, ⟨none, 0, 0, rfl, RdB.none_ _ _⟩, ?_⟩
            exact bsetB (bsetB (bsetB (bsetB (bsetB HB.out _ _ _ (Nat.le_refl _)) _ _ _ (Nat.le_refl _)) _ _ _ (Nat.le_refl _)) _ _ _ (Nat.le_refl _)) _ _ _ (Nat.le_refl _)
/-- What is known while the keys of a level are read. -/
def KyP (R : List Int) (m : Int) (C : List ByteArray) (b : Bool) (R' : List Int) (j : Nat) : Prop :=
  (b = true → lvF R = true) ∧ (b = false → m = nL R ∧ nL R ≤ 32 ∧ (decU R).2.2 = 0 ∧ C = ksK (restU R) j ∧ R' = rsK (restU R) j ∧ flK false (restU R) j = false)
theorem KyP.start {R R1 : List Int} {m : Int} {b1 : Bool} (h : NumP R 32 false m b1 R1) : KyP R m [] b1 R1 0 := by
  rcases h with ⟨-, a1, rfl, rfl, rfl⟩ | ⟨a1, rfl, rfl, -⟩
  · have g := numG_yes a1
    exact ⟨fun h => (by cases h), fun _ => ⟨rfl, g.2, g.1, rfl, rfl, rfl⟩⟩
  · refine ⟨fun _ => ?_, fun h => (by cases h)⟩
    rcases a1 with h | h
    · cases h
    · unfold lvF nL
      by_cases hx : 32 < (decU R).1
      · rw [if_pos hx]
      · rw [if_neg hx]
        rcases numG_no h with h | h
        · exact flK_mono (Nat.zero_le _) (show ((decU R).2.2 != 0) = true by simpa using h)
        · exact absurd h hx
theorem KyP.step {R R' R2 : List Int} {m : Int} {C : List ByteArray} {b b2 : Bool} {j : Nat} {x : ByteArray} (h : KyP R m C b R' j) (hb : b = false) (hj : (j : Int) < m) (hT : TxtP R' b x b2 R2) : KyP R m (C ++ [x]) b2 R2 (j + 1) := by
  obtain ⟨a1, a2, a3, a4, a5, a6⟩ := h.2 hb
  rcases hT with ⟨-, t1, rfl, rfl, rfl⟩ | ⟨t1, rfl, rfl, -⟩
  · refine ⟨fun h => (by cases h), fun _ => ⟨a1, a2, a3, by rw [a4, a5]; rfl, by rw [a5]; rfl, ?_⟩⟩
    show (flK false (restU R) j || (decT (rsK (restU R) j)).2.2 != 0) = false
    rw [a6, ← a5, t1]
    rfl
  · refine ⟨fun _ => ?_, fun h => (by cases h)⟩
    have ht : (decT R').2.2 ≠ 0 := t1.resolve_left (by rw [hb]; simp)
    rw [a5] at ht
    have h1 : flK false (restU R) (j + 1) = true := by
      show (flK false (restU R) j || (decT (rsK (restU R) j)).2.2 != 0) = true
      rw [a6]
      simpa using ht
    unfold lvF
    rw [if_neg (by omega), a3]
    exact flK_mono (by omega) h1
/-- One reading of a level with bounds. -/
def LevP (R : List Int) (C : List ByteArray) (b : Bool) (R' : List Int) : Prop := (b = false ∧ C = lvA R ∧ R' = lvR R ∧ lvF R = false) ∨ (b = true ∧ lvF R = true)
theorem KyP.fin {R R' : List Int} {m : Int} {C : List ByteArray} {b : Bool} {j : Nat} (h : KyP R m C b R' j) (hj : b = true ∨ ¬ (j : Int) < m) (hj2 : (j : Int) ≤ m) : LevP R C b R' := by
  by_cases hb : b = true
  · exact .inr ⟨hb, h.1 hb⟩
  · have hb : b = false := by simpa using hb
    have hjn := hj.resolve_left (by rw [hb]; simp)
    obtain ⟨a1, a2, a3, a4, a5, a6⟩ := h.2 hb
    have e : (nL R).toNat = j := by omega
    refine .inl ⟨hb, ?_, ?_, ?_⟩
    · unfold lvA; rw [if_neg (by omega), e]; exact a4
    · unfold lvR; rw [if_neg (by omega), e]; exact a5
    · unfold lvF; rw [if_neg (by omega), e, a3]; exact a6
/-- What is known while the entries are read. -/
def RTl (L : List Int) (s t q x n : Int) (C : List (List ByteArray)) (b : Bool) (R : List Int) (k : Nat) : Prop :=
  (b = true → ¬ OkR L) ∧ (b = false → s = qS L ∧ t = qT L ∧ q = qK L ∧ x = qX L ∧ n = qN L ∧ qX L ≤ 1 ∧ qN L ≤ 41 ∧ C = lsV (qR L) k ∧ R = rsV (qR L) k ∧ flV (qF L) (qR L) k = false)
theorem RTl.start {L R1 R2 R3 R4 R5 : List Int} {b1 b2 b3 b4 b5 : Bool} {s t q x n : Int} (hy : Byt L) (h1 : NumP L 32 false s b1 R1) (h2 : NumP R1 1099511627776 b1 t b2 R2) (h3 : NumP R2 1099511627776 b2 q b3 R3) (h4 : NumP R3 1 b3 x b4 R4) (h5 : NumP R4 41 b4 n b5 R5) : RTl L s t q x n [] b5 R5 0 := by
  rcases headR hy h1 h2 h3 h4 h5 with ⟨rfl, a1, a2, aq, a3, a4, a5, a6, _, _, _, a9, a10⟩ | ⟨rfl, _, h⟩
  · exact ⟨fun h => (by cases h), fun _ => ⟨a1, a2, aq, a3, a4, a9, a10, rfl, a5, a6⟩⟩
  · exact ⟨fun _ => h, fun h => (by cases h)⟩
theorem RTl.step {L R R' : List Int} {s t q x n : Int} {C : List (List ByteArray)} {X : List ByteArray} {b b' : Bool} {k : Nat} (h : RTl L s t q x n C b R k) (hb : b = false) (hk : (k : Int) < n) (hE : LevP R X b' R') : RTl L s t q x n (C ++ [X]) b' R' (k + 1) := by
  obtain ⟨a1, a2, aq, a3, a4, a5, a6, a7, a8, a9⟩ := h.2 hb
  rcases hE with ⟨rfl, rfl, rfl, hf⟩ | ⟨rfl, hw⟩
  · refine ⟨fun h => (by cases h), fun _ => ⟨a1, a2, aq, a3, a4, a5, a6, by rw [a7, a8]; rfl, by rw [a8]; rfl, ?_⟩⟩
    show (flV (qF L) (qR L) k || lvF (rsV (qR L) k)) = false
    rw [a9, ← a8, hf]
    rfl
  · refine ⟨fun _ => ?_, fun h => (by cases h)⟩
    rw [a8] at hw
    exact okR_lev (by omega) hw
theorem RTl.fin {L R : List Int} {s t q x n : Int} {C : List (List ByteArray)} {b : Bool} {k : Nat} (h : RTl L s t q x n C b R k) (hk : b = true ∨ ¬ (k : Int) < n) (hk2 : (k : Int) ≤ n) :
    ((b = true ∨ R ≠ [] ∨ valR s t q C ≠ 0) → ¬ OkR L) ∧ (b = false → R = [] → valR s t q C = 0 → OkR L ∧ decR L = ⟨s, t, q, C, x == 1⟩) := by
  by_cases hb : b = true
  · exact ⟨fun _ => h.1 hb, fun h' => (by rw [hb] at h'; cases h')⟩
  · have hb : b = false := by simpa using hb
    have hkn := hk.resolve_left (by rw [hb]; simp)
    obtain ⟨a1, a2, aq, a3, a4, a5, a6, a7, a8, a9⟩ := h.2 hb
    have e : (qN L).toNat = k := by omega
    refine ⟨fun hw hok => ?_, fun _ h1 h2 => ?_⟩
    · obtain ⟨o1, o2, o3, o4, o5⟩ := hok
      rw [e] at o3 o4 o5
      rcases hw with h | h | h
      · rw [hb] at h; cases h
      · exact h (a8.trans o4)
      · exact h (by rw [a1, a2, aq, a7]; exact o5)
    · have hok : OkR L := ⟨a5, a6, by rw [e]; exact a9, by rw [e, ← a8]; exact h1, by rw [e, ← a7, ← a1, ← a2, ← aq]; exact h2⟩
      exact ⟨hok, by rw [(decR_yes hok).1, e, ← a7, ← a1, ← a2, ← aq, ← a3]⟩
theorem RTl.lok {L R : List Int} {s t q x n : Int} {C : List (List ByteArray)} {b : Bool} {k : Nat} (h : RTl L s t q x n C b R k) (hy : Byt L) (hb : b = false) (hk : (k : Int) ≤ n) : LOk C := by
  obtain ⟨a1, a2, aq, a3, a4, a5, a6, a7, a8, a9⟩ := h.2 hb
  rw [a7]
  exact lsV_lok (headR_byt hy) (by omega)
/-- The state of DecodeRanks: the result's cells, the reader, the summary under way. -/
def RDl (W : World) (g9 : Nat) (L : List Int) (S T K : Int) (v : Value) (s : Bool) (b : Bool) (R : List Int) (w : World) : Prop :=
  RsS W.heap.size 0 0 0 (.slice none 0 0) false w ∧ RS W (W.heap.size + 1) L R b w ∧ RsS g9 S T K v s w ∧ Below W.heap.size W w ∧ W.heap.size + 2 ≤ g9
section
variable {W w w' : World} {g9 : Nat} {L : List Int} {S T K : Int} {v : Value} {s b b' : Bool} {R R' : List Int}
theorem RDl.top (h : RDl W g9 L S T K v s b R w) : RsS g9 S T K v s w := h.2.2.1
theorem RDl.res (h : RDl W g9 L S T K v s b R w) : RsS W.heap.size 0 0 0 (.slice none 0 0) false w := h.1
theorem RDl.rs (h : RDl W g9 L S T K v s b R w) : RS W (W.heap.size + 1) L R b w := h.2.1
theorem RDl.bel (h : RDl W g9 L S T K v s b R w) : Below W.heap.size W w := h.2.2.2.1
theorem RDl.room (h : RDl W g9 L S T K v s b R w) : W.heap.size + 2 ≤ g9 ∧ g9 < w.heap.size := ⟨h.2.2.2.2, h.2.2.1.lt⟩
theorem RDl.keep (h : RDl W g9 L S T K v s b R w) (hb : Below (g9 + 1) w w') : RDl W g9 L S T K v s b R w' := by
  obtain ⟨h1, h2, h3, h4, h5⟩ := h
  exact ⟨h1.keep (hb.block _ (by omega)), h2.keep (hb.block _ (by omega)), h3.keep (hb.block _ (by omega)), h4.trans (hb.mono (by omega)), h5⟩
theorem RDl.go (h : RDl W g9 L S T K v s b R w) (hb : Below w.heap.size w w') : RDl W g9 L S T K v s b R w' := h.keep (hb.mono h.room.2)
theorem RDl.drew (h : RDl W g9 L S T K v s b R w) : RDl W g9 L S T K v s b R w.drew := h.go (Below.refl _ _).drew
theorem RDl.turn (h : RDl W g9 L S T K v s b R w) (ho : Tn (W.heap.size + 1) w w') (hd : RS W (W.heap.size + 1) L R' b' w') : RDl W g9 L S T K v s b' R' w' := by
  obtain ⟨h1, h2, h3, h4, h5⟩ := h
  exact ⟨h1.keep (ho.2.2 _ h1.lt (by omega)), hd, h3.keep (ho.2.2 _ h3.lt (by omega)), h4.trans (ho.1.mono (by omega)), h5⟩
theorem RDl.put (h : RDl W g9 L S T K v s b R w) (a : Option Addr) (n c : Nat) : RDl W g9 L S T K (.slice a n c) s b R (w.setCell ⟨g9, 3, none⟩ (.slice a n c)) := by
  obtain ⟨h1, h2, ⟨⟨p0, p1, p2, p3, p4⟩, f0, f1, f2, f3, f4⟩, h4, h5⟩ := h
  exact ⟨h1.keep (Below.heap_setCell _ ⟨g9, 3, none⟩ _ _ (by show W.heap.size ≠ g9; omega)), h2.keep (Below.heap_setCell _ ⟨g9, 3, none⟩ _ _ (by show W.heap.size + 1 ≠ g9; omega)), ⟨⟨by go_simp, by go_simp, by go_simp, by go_simp, by go_simp⟩, by go_simp, by go_simp, by go_simp, by go_simp, by go_simp⟩, h4.setCell (p := ⟨g9, 3, none⟩) (by show W.heap.size ≤ g9; omega) _, h5⟩
end
set_option maxRecDepth 100000 in
set_option maxHeartbeats 4000000 in
theorem rdecR_any (L : List Int) (v : Value) (w : World) (h : Rd L v w) :
    Calls Tryd.prog 32 #[v] w fun e w' => ∃ u, e = .returned (.tuple #[u, .int .i64 (errR L)]) ∧ RbR w.heap.size (decR L) u w' ∧ Below w.heap.size w w' := by
  obtain ⟨a, len, cap, rfl⟩ : ∃ a len cap, v = .slice a len cap := by
    obtain ⟨_, a, cap, hv, _⟩ := h
    exact ⟨a, _, cap, hv⟩
  have C0 := Lib.hid ((RsS.new 0 0 0 (.slice none 0 0) false 28 w).below (b1 (.cells #[.slice a len cap, .int .i64 0, .bool false] 89)) (by simp))
  have D0 : Hid (RS w (w.heap.size + 1) L L false ((w.alloc (.cells #[.int .i64 0, .int .i64 0, .int .i64 0, .slice none 0 0, .bool false] 28)).alloc (.cells #[.slice a len cap, .int .i64 0, .bool false] 89))) :=
    Lib.hid ⟨.slice a len cap, 0, h, Nat.zero_le _, rfl, ⟨by go_simp, by go_simp, by go_simp⟩, by go_simp, by go_simp, by go_simp⟩
  have B0 := Lib.hid (b2 (a := w) (.cells #[.int .i64 0, .int .i64 0, .int .i64 0, .slice none 0 0, .bool false] 28) (.cells #[.slice a len cap, .int .i64 0, .bool false] 89))
  have HBY := Lib.hid h.1
  have HNO := Lib.hid (decR_no (L := L))
  have HYE := Lib.hid (fun h => (decR_yes (L := L) h).2)
  clear h
  obtain ⟨RES, hRES⟩ : ∃ r, decR L = r := ⟨_, rfl⟩
  obtain ⟨REE, hREE⟩ : ∃ r, errR L = r := ⟨_, rfl⟩
  rw [hRES, hREE] at HNO
  rw [hREE] at HYE
  rw [hRES, hREE]
  have HRES := Lib.hid hRES
  clear hRES hREE
  go_enter Tryd.func32, Tryd.ntmps32
  go_wp2_with fail
  go_at_call 64
  refine (rnum_any 32 (by decide) (by decide) D0.out B0.out).mono ?_
  rintro e w2 ⟨n1, f1, R1, rfl, hp1, hd2, ho2⟩
  have D2 := Lib.hid hd2
  have B2 := Lib.hid (B0.out.trans (ho2.1.mono (Nat.le_succ _)))
  have C2 := Lib.hid (C0.out.keep (ho2.2 _ (by omega)))
  have hbd1 := hp1.bd D0.out.byt (by decide)
  clear hd2 ho2 D0 B0 C0
  go_wp2_with fail
  go_at_call 64
  refine (rnum_any 1099511627776 (by decide) (by decide) D2.out B2.out).mono ?_
  rintro e w3 ⟨n2, f2, R2, rfl, hp2, hd3, ho3⟩
  have D3 := Lib.hid hd3
  have B3 := Lib.hid (B2.out.trans (ho3.1.mono (Nat.le_succ _)))
  have C3 := Lib.hid (C2.out.keep (ho3.2 _ (by omega)))
  have hbd2 := hp2.bd D2.out.byt (by decide)
  clear hd3 ho3 D2 B2 C2
  go_wp2_with fail
  go_at_call 64
  refine (rnum_any 1099511627776 (by decide) (by decide) D3.out B3.out).mono ?_
  rintro e w6 ⟨n3, f6, R6, rfl, hp6, hd6, ho6⟩
  have D6 := Lib.hid hd6
  have B6 := Lib.hid (B3.out.trans (ho6.1.mono (Nat.le_succ _)))
  have C6 := Lib.hid (C3.out.keep (ho6.2 _ (by omega)))
  have hbd6 := hp6.bd D3.out.byt (by decide)
  clear hd6 ho6 D3 B3 C3
  go_wp2_with fail
  go_at_call 64
  refine (rnum_any 1 (by decide) (by decide) D6.out B6.out).mono ?_
  rintro e w4 ⟨x, f3, R3, rfl, hp3, hd4, ho4⟩
  have D4 := Lib.hid hd4
  have B4 := Lib.hid (B6.out.trans (ho4.1.mono (Nat.le_succ _)))
  have C4 := Lib.hid (C6.out.keep (ho4.2 _ (by omega)))
  have hbd3 := hp3.bd D6.out.byt (by decide)
  have HP := Lib.hid (And.intro hp1 (And.intro hp2 (And.intro hp6 hp3)))
  have H4 : Hid (RDl w w4.heap.size L n1 n2 n3 (.slice none 0 0) (x == 1) f3 R3 (w4.alloc (.cells #[.int .i64 n1, .int .i64 n2, .int .i64 n3, .slice none 0 0, .bool (x == 1)] 28))) :=
    Lib.hid ⟨C4.out.below (b1 _) C4.out.lt, D4.out.keep (Below.heap_alloc _ _ _ D4.out.size), RsS.new _ _ _ _ _ _ _, bal B4.out _, D4.out.size⟩
  clear hd4 ho4 D6 B6 C6 hp1 hp2 hp6 hp3 D4 B4 C4
  obtain ⟨W9, hW9⟩ : ∃ W9 : World, W9 = w4.alloc (.cells #[.int .i64 n1, .int .i64 n2, .int .i64 n3, .slice none 0 0, .bool (x == 1)] 28) := ⟨_, rfl⟩
  have HW9 : Hid (W9.heap.size = w4.heap.size + 1) := Lib.hid (by rw [hW9]; simp)
  clear hW9
  go_wp2_with fail
  go_at_call 64
  refine (rnum_any 41 (by decide) (by decide) H4.out.rs H4.out.bel).mono ?_
  rintro e w5 ⟨n, b, R, rfl, hp5, hd5, ho5⟩
  have HI : Hid (RDl w w4.heap.size L n1 n2 n3 (.slice none 0 0) (x == 1) b R w5 ∧ MixL W9 W9.heap.size [] [] (.slice none 0 0) w5) := Lib.hid ⟨H4.out.turn ho5.tn hd5, MixL.empty _ _ _⟩
  have HK := Lib.hid (RTl.start HBY.out HP.out.1 HP.out.2.1 HP.out.2.2.1 HP.out.2.2.2 hp5)
  have hbd4 := hp5.bd H4.out.rs.byt (by decide)
  clear hp5 hd5 ho5 H4 HP
  go_wp2
  go_loopw [7, 8, 9, 10] (fun i _ _ _ wr => ∃ (k : Nat) (C : List (List ByteArray)) (us : List Value) (b : Bool) (R : List Int) (a : Option Addr) (c : Nat), (k : Int) ≤ n ∧ Hid (C.length = k) ∧ i = .int .i64 (k : Int) ∧ Hid (RDl w w4.heap.size L n1 n2 n3 (.slice a k c) (x == 1) b R wr ∧ MixL W9 W9.heap.size C us (.slice a k c) wr) ∧ Hid (RTl L n1 n2 n3 x n C b R k)) (fun i _ _ _ _ => 42 - (intOf i).toNat)
  case atStart => exact ⟨0, [], [], b, R, none, 0, by omega, Lib.hid rfl, rfl, HI, HK⟩
  case round =>
    clear HI HK b R
    obtain ⟨k, C, us, b, R, a5, c5, hk, hC, rfl, HI, HK⟩ := hrel
    have hC2 := hC.out
    subst hC2
    clear hC
    have HRM := Lib.hid HI.out.1.room
    obtain ⟨⟨q0, q1, q2, q3, q4⟩, y0, y1, y2, y3, y4⟩ := HI.out.1.top
    obtain ⟨vr, kr, _, _, _, ⟨⟨r0, r1, r2⟩, _⟩⟩ := HI.out.1.rs
    by_cases hgo : (C.length : Int) < n ∧ b = false
    · obtain ⟨hlt, rfl⟩ := hgo
      have hnum := rnum_any 32 (by decide) (by decide) HI.out.1.rs HI.out.1.bel
      have HGW : Hid (w.heap.size + 1 < W9.heap.size ∧ W9.heap.size ≤ wr.heap.size ∧ w4.heap.size < W9.heap.size ∧ w.heap.size ≤ w.heap.size + 1) := Lib.hid (by have := HW9.out; have h1 := HRM.out; omega)
      have HUL : Hid (us.length = C.length) := Lib.hid HI.out.2.2.1
      go_wp2_with (go_at_call 64; (with_reducible refine hnum.mono ?_); rintro e w6 ⟨m, b6, R6, rfl, hp6, hd6, ho6⟩; have DL6 := Lib.hid (HI.out.1.turn ho6.tn hd6); have OV6 := Lib.hid (HI.out.2.tn ho6.tn HGW.out.1); have Z6 : Hid (W9.heap.size ≤ w6.heap.size) := Lib.hid (Nat.le_trans HGW.out.2.1 ho6.tn.2.1); have HKY := Lib.hid (KyP.start hp6); have hbm := hp6.bd HI.out.1.rs.byt (by decide))
      clear hnum hp6 hd6 ho6 HI r0 r1 r2 q0 q1 q2 q3 q4 y0 y1 y2 y3 y4
      have HJ : Hid (OwnS w6.heap.size [] (.slice none 0 0) w6 ∧ RS w (w.heap.size + 1) L R6 b6 w6 ∧ Tn (w.heap.size + 1) w6 w6) := Lib.hid ⟨OwnS.empty _ _, DL6.out.rs, Tn.refl _ _⟩
      have HG6 : Hid (w.heap.size + 1 < w6.heap.size) := Lib.hid (by have := DL6.out.room; omega)
      go_loopw [9, 10] (fun v j wq => ∃ (i : Nat) (l : List ByteArray) (b : Bool) (R' : List Int) (a : Option Addr) (c : Nat), (i : Int) ≤ m ∧ Hid (l.length = i) ∧ j = .int .i64 (i : Int) ∧ v = .slice a i c ∧ Hid (OwnS w6.heap.size l (.slice a i c) wq ∧ RS w (w.heap.size + 1) L R' b wq ∧ Tn (w.heap.size + 1) w6 wq) ∧ Hid (KyP R m l b R' i)) (fun _ j _ => 33 - (intOf j).toNat)
      case atStart => exact ⟨0, [], b6, R6, none, 0, by omega, Lib.hid rfl, rfl, rfl, HJ, HKY⟩
      case round =>
        clear HJ HKY
        obtain ⟨i, l, b6, R6, a6, c6, hi, hl, rfl, rfl, HJ, HKY⟩ := hrel
        have hl2 := hl.out
        subst hl2
        clear hl
        obtain ⟨vr, kr, _, _, _, ⟨⟨r0, r1, r2⟩, _⟩⟩ := HJ.out.2.1
        have HBQ := Lib.hid (DL6.out.bel.trans (HJ.out.2.2.below HGW.out.2.2.2))
        by_cases hgo : (l.length : Int) < m ∧ b6 = false
        · obtain ⟨hlm, rfl⟩ := hgo
          have htx := rtxt_any HJ.out.2.1 HBQ.out
          have HLN : Hid (∀ X : ByteArray, l.length + [X].length ≤ 8796093022208) := Lib.hid (fun X => by rw [List.length_singleton]; omega)
          have O0 := Lib.hid HJ.out.1
          have T0 := Lib.hid HJ.out.2.2
          clear HJ
          go_wp2_with (first
            | (go_at_call 65; (with_reducible refine htx.mono ?_); rintro e w7 ⟨x7, b7, R7, rfl, hp7, hd7, ho7⟩; have HK7 := Lib.hid (KyP.step HKY.out rfl hlm hp7); have D7 := Lib.hid hd7; have O7 := Lib.hid (O0.out.tn ho7.tn HG6.out); have T7 := Lib.hid (T0.out.trans ho7.tn); clear hp7 hd7 ho7 O0 T0 r0 r1 r2)
            | (at_builtin; refine wp_appS rfl _ _ _ rfl w6.heap.size l [x7] _ _ rfl rfl (O7.out.alloc _) (OwnS.one x7 w7).rd.src (by have := T7.out.2.1; simp; omega) (HLN.out _) ?_; (intro v8 w8 ho8 hb8; obtain ⟨a8, c8, rfl⟩ := ho8.rd.shape; have O8 := Lib.hid ho8; have D8 := Lib.hid ((D7.out.keep (Below.heap_alloc _ _ _ D7.out.size)).keep (hb8.block _ HG6.out)); have T8 := Lib.hid ((T7.out.trans (Tn.of (b1 _) D7.out.size)).bel hb8 HG6.out); clear ho8 hb8 O7 D7 T7)))
          exact ⟨⟨l.length + 1, l ++ [x7], b7, R7, a8, c8, by omega, Lib.hid (by rw [List.length_append, List.length_singleton]), by go_num, rfl, Lib.hid (by have h := O8.out; rw [List.length_append, List.length_singleton] at h; exact ⟨h, D8.out, T8.out⟩), HK7⟩, by simp [intOf]; omega⟩
        · have HEX := Lib.hid (show b6 = true ∨ ¬ (l.length : Int) < m from by
            by_cases hbt : b6 = true
            · exact .inl hbt
            · exact .inr (fun h => hgo ⟨h, by simpa using hbt⟩))
          have hgo2 : ¬ (l.length : Int) < m ∨ (l.length : Int) < m ∧ b6 = true := by
            by_cases hlm : (l.length : Int) < m
            · exact .inr ⟨hlm, HEX.out.resolve_right (fun h => h hlm)⟩
            · exact .inl hlm
          have HLP := Lib.hid (KyP.fin HKY.out HEX.out hi)
          have HK9 := Lib.hid (RTl.step HK.out rfl hlt HLP.out)
          have DL7 := Lib.hid (DL6.out.turn HJ.out.2.2 HJ.out.2.1)
          have OV7 := Lib.hid (OV6.out.tn HJ.out.2.2 HGW.out.1)
          have R7 := Lib.hid (RowT.own (W := W9) (B := W9.heap.size) HJ.out.1 Z6.out)
          have Z7 := Lib.hid (Nat.le_trans Z6.out HJ.out.2.2.2.1)
          have HLV : Hid (us.length + 1 ≤ 1099511627776) := Lib.hid (by rw [HUL.out]; omega)
          obtain ⟨⟨q0, q1, q2, q3, q4⟩, y0, y1, y2, y3, y4⟩ := DL7.out.top
          clear hgo HJ HKY HEX HK
          rcases hgo2 with hlm | ⟨hlm, rfl⟩
          all_goals
            go_wp2_with (at_builtin; refine wp_appV rfl _ _ _ rfl W9.heap.size us [.slice a6 l.length c6] _ _ rfl rfl (OV7.out.1.alloc _) (OwnV.one R7.out.1 _).rd.src (by have := Z7.out; simp; omega) HLV.out ?_; (intro v9 w9 ho9 hb9 hl9; have OV9 := Lib.hid ((OV7.out.below (b1 _)).snoc (R7.out.keep (.below (b1 _))) ho9 hl9); obtain ⟨a9, c9, rfl⟩ := OV9.out.shape; have DL9 := Lib.hid ((DL7.out.go (b1 _)).keep (HW9.out ▸ hb9)); clear ho9 hb9 hl9 q0 q1 q2 q3 q4 y0 y1 y2 y3 y4; obtain ⟨⟨q0, q1, q2, q3, q4⟩, y0, y1, y2, y3, y4⟩ := DL9.out.top))
            have HD : Hid (RDl w w4.heap.size L n1 n2 n3 (.slice a9 (C.length + 1) c9) (x == 1) _ R6 (w9.setCell ⟨w4.heap.size, 3, none⟩ (.slice a9 (C.length + 1) c9)) ∧ MixL W9 W9.heap.size (C ++ [l]) (us ++ [.slice a6 l.length c6]) (.slice a9 (C.length + 1) c9) (w9.setCell ⟨w4.heap.size, 3, none⟩ (.slice a9 (C.length + 1) c9))) :=
              Lib.hid ⟨DL9.out.put a9 (C.length + 1) c9, by have h := MixL.st (o := 3) (x := .slice a9 (C.length + 1) c9) OV9.out HGW.out.2.2.1; rw [List.length_append, List.length_singleton] at h; exact h⟩
            have hm : 42 - (C.length + 1) < 42 - C.length := by omega
            clear OV9 DL9 q0 q1 q2 q3 q4 y0 y1 y2 y3 y4
            exact ⟨⟨C.length + 1, C ++ [l], _, _, R6, a9, c9, by omega, Lib.hid (by rw [List.length_append, List.length_singleton]), by go_num, HD, HK9⟩, by simp [intOf]; omega⟩
    · have HEX := Lib.hid (show b = true ∨ ¬ (C.length : Int) < n from by
        by_cases hbt : b = true
        · exact .inl hbt
        · exact .inr (fun h => hgo ⟨h, by simpa using hbt⟩))
      have hgo2 : ¬ (C.length : Int) < n ∨ (C.length : Int) < n ∧ b = true := by
        by_cases hlt : (C.length : Int) < n
        · exact .inr ⟨hlt, HEX.out.resolve_right (fun h => h hlt)⟩
        · exact .inl hlt
      have HF := Lib.hid (RTl.fin HK.out HEX.out hk)
      have HLO := Lib.hid (fun hb => RTl.lok HK.out HBY.out hb hk)
      have hdn : ((!b && R.isEmpty) = true ∧ b = false ∧ R = []) ∨ ((!b && R.isEmpty) = false ∧ (b = true ∨ R ≠ [])) := by
        cases b
        · cases R with
          | nil => exact .inl ⟨rfl, rfl, rfl⟩
          | cons a l => exact .inr ⟨rfl, .inr (by simp)⟩
        · exact .inr ⟨rfl, .inl rfl⟩
      have HDN := Lib.hid hdn
      have HDO := Lib.hid (rdone_any HI.out.1.rs HI.out.1.bel)
      clear hgo hdn HK HEX
      rcases hgo2 with hlt | ⟨hlt, rfl⟩
      all_goals
        go_wp2_with fail
        go_at_call 66
        (with_reducible refine HDO.out.mono ?_)
        rintro e w9 ⟨rfl, m, hm9⟩
        have I9 : Hid (RDl w w4.heap.size L n1 n2 n3 (.slice a5 C.length c5) (x == 1) _ R w9 ∧ MixL W9 W9.heap.size C us (.slice a5 C.length c5) w9) := Lib.hid (by rw [hm9]; exact ⟨HI.out.1.go (below_drewN (Below.refl _ _) m), HI.out.2.below (below_drewN (Below.refl _ _) m)⟩)
        clear hm9 HI HDO q0 q1 q2 q3 q4 y0 y1 y2 y3 y4 r0 r1 r2
        obtain ⟨⟨q0, q1, q2, q3, q4⟩, y0, y1, y2, y3, y4⟩ := I9.out.1.top
        obtain ⟨⟨p0, p1, p2, p3, p4⟩, f0, f1, f2, f3, f4⟩ := I9.out.1.res
        have HB := Lib.hid I9.out.1.bel
        rcases HDN.out with ⟨hdn, hb', hR'⟩ | ⟨hdn, hbad⟩
        · have HV := Lib.hid (rvalR_any n1 n2 n3 C (x == 1) a5 C.length c5 w9 I9.out.2.rd (HLO.out hb'))
          by_cases hE : valR n1 n2 n3 C = 0
          · obtain ⟨hok, hdc⟩ := HF.out.2 hb' hR' hE
            have HRS := Lib.hid (HRES.out.symm.trans hdc)
            have e2 := HYE.out hok
            subst e2
            rw [hE] at HV
            rw [hdn]
            clear hE hok hdc hdn hb' hR' HDN HF HNO HYE HRES
            go_wp2_with (go_at_call 21; (with_reducible refine HV.out.mono ?_); rintro e w10 ⟨rfl, hb10⟩; clear HB p0 p1 p2 p3 p4 f0 f1 f2 f3 f4 q0 q1 q2 q3 q4 y0 y1 y2 y3 y4; have DL10 := Lib.hid (I9.out.1.go hb10); have OV10 := Lib.hid (I9.out.2.below hb10); have HB := Lib.hid DL10.out.bel; obtain ⟨⟨p0, p1, p2, p3, p4⟩, f0, f1, f2, f3, f4⟩ := DL10.out.res; obtain ⟨⟨q0, q1, q2, q3, q4⟩, y0, y1, y2, y3, y4⟩ := DL10.out.top; clear hb10)
            refine bodyPost_ret (v := .tuple #[.agg #[.int .i64 n1, .int .i64 n2, .int .i64 n3, .slice a5 C.length c5, .bool (x == 1)], .int .i64 0]) (by simp [results, Tryd.results32, go_sem, *]) rfl ⟨_, rfl, ⟨a5, C.length, c5, by rw [HRS.out], ?_⟩, ?_⟩
            · rw [HRS.out]
              have hlt9 : w.heap.size < W9.heap.size := by have := HRM.out; have := HW9.out; omega
              exact (((((OV10.out.st hlt9).st hlt9).st hlt9).st hlt9).st hlt9).rb (Nat.le_refl _) |>.mono (Nat.le_of_lt hlt9)
            · exact bsetB (bsetB (bsetB (bsetB (bsetB HB.out _ _ _ (Nat.le_refl _)) _ _ _ (Nat.le_refl _)) _ _ _ (Nat.le_refl _)) _ _ _ (Nat.le_refl _)) _ _ _ (Nat.le_refl _)
          · obtain ⟨e1, e2⟩ := HNO.out (HF.out.1 (.inr (.inr hE)))
            subst e1 e2
            have hE2 : (valR n1 n2 n3 C != 0) = true := by simpa using hE
            rw [hdn]
            generalize valR n1 n2 n3 C = E at *
            clear hE hdn hb' hR' HDN HF HNO HYE HRES
            go_wp2_with (go_at_call 21; (with_reducible refine HV.out.mono ?_); rintro e w10 ⟨rfl, hb10⟩; clear HB p0 p1 p2 p3 p4 f0 f1 f2 f3 f4 q0 q1 q2 q3 q4 y0 y1 y2 y3 y4; have DL10 := Lib.hid (I9.out.1.go hb10); have HB := Lib.hid DL10.out.bel; obtain ⟨⟨p0, p1, p2, p3, p4⟩, f0, f1, f2, f3, f4⟩ := DL10.out.res; clear hb10)
            refine bodyPost_ret (v := .tuple #[.agg #[.int .i64 0, .int .i64 0, .int .i64 0, .slice none 0 0, .bool false], .int .i64 2]) (by simp [results, Tryd.results32, go_sem, *]) rfl ⟨_, rfl, ⟨none, 0, 0, rfl, RdB.none_ _ _⟩, ?_⟩
            exact bsetB (bsetB (bsetB (bsetB (bsetB HB.out _ _ _ (Nat.le_refl _)) _ _ _ (Nat.le_refl _)) _ _ _ (Nat.le_refl _)) _ _ _ (Nat.le_refl _)) _ _ _ (Nat.le_refl _)
        · obtain ⟨e1, e2⟩ := HNO.out (HF.out.1 (by rcases hbad with h | h; exact .inl h; exact .inr (.inl h)))
          subst e1 e2
          rw [hdn]
          clear hdn hbad HDN HF HNO HYE HRES
          go_wp2
          refine bodyPost_ret (v := .tuple #[.agg #[.int .i64 0, .int .i64 0, .int .i64 0, .slice none 0 0, .bool false], .int .i64 2]) (by simp [results, Tryd.results32, go_sem, *]) rfl ⟨_, rfl, ⟨none, 0, 0, rfl, RdB.none_ _ _⟩, ?_⟩
          exact bsetB (bsetB (bsetB (bsetB (bsetB HB.out _ _ _ (Nat.le_refl _)) _ _ _ (Nat.le_refl _)) _ _ _ (Nat.le_refl _)) _ _ _ (Nat.le_refl _)) _ _ _ (Nat.le_refl _)
set_option maxRecDepth 100000 in
set_option maxHeartbeats 4000000 in
theorem ranksCodes_walk (S : Int) (al : Option Addr) (ln cap : Nat) (z : List Int) (bl : Option Addr) (lm cbp : Nat) (y : List Int) (n : Int) (dl : Option Addr) (lk cdp : Nat) (x : List Int) (W : World) (wa : (Lit.int .i64 S).wf = true) (w0 : InRow .i64 W al ln cap z) (w1 : InRow .u8 W bl lm cbp y) (wn : (Lit.int .i64 n).wf = true) (wx : InRow .u8 W dl lk cdp x) (ht : TabP W) :
    Calls Tryd.prog 6 #[.int .i64 S, .slice al ln cap, .slice bl lm cbp, .int .i64 n, .slice dl lk cdp] W fun e w' => e = .returned (.bool true) ∧ Below W.heap.size W w' := by
  obtain ⟨S0, S1⟩ := wf_bd wa
  obtain ⟨n0, n1⟩ := wf_bd wn
  have gn : lk ≤ 9223372036854775807 := by have := wx.1; have := wx.2.1; unfold maxLen at this; omega
  have HZ := Lib.hid (inRow_rd w1)
  have HT := Lib.hid ht
  have h1 := madeR_any S (z.take ln) (y.take lm) _ _ W S0 S1 (inRow_rdJ w0) (inRow_rd w1)
  have hm := madeR_val S (z.take ln) (y.take lm)
  generalize madeR S (z.take ln) (y.take lm) = cm at *
  generalize y.take lm = Z at *
  have h2 := Lib.hid (fun (B : Nat) (v : Value) (w : World) (hv : RbR B cm v w) (hB : B ≤ w.heap.size) => spoilR_any B cm v n w hm hv hB n0 n1)
  have hsh := fun w (hb : Below W.heap.size W w) => short_any Z _ w (HZ.out.below hb)
  have hkn := Lib.hid (fun w (hb : Below W.heap.size W w) => knownR_any w (HT.out.below hb))
  have HC := Lib.hid (inRow_rd wx)
  clear wa wn w0 w1 ht hm wx
  by_cases hs : Z.length ≤ 100
  · rw [decide_eq_true hs] at hsh
    by_cases hn : 300 < lk
    · have hn2 : (300 : Int) < (lk : Int) := by omega
      clear h1 h2 HC
      go_enter Tryd.func6, Tryd.ntmps6
      go_wp2_with (first
        | (go_at_call 10; (with_reducible refine (hsh _ (Below.refl _ _)).mono ?_); rintro e w' ⟨rfl, rfl⟩)
        | (go_at_call 11; (with_reducible refine (hkn.out _ (Below.refl _ _)).mono ?_); rintro e w2 ⟨rfl, hb2⟩; have B2 := Lib.hid hb2; clear hb2))
      go_ret
      exact ⟨rfl, B2.out⟩
    · have hn2 : ¬ (300 : Int) < (lk : Int) := by omega
      generalize x.take lk = L at *
      have HD1 := Lib.hid (fun x (hb : Below W.heap.size W x) => pdecR_any L (.slice dl lk cdp) x (HC.out.below hb))
      have HD2 := Lib.hid (fun x (hb : Below W.heap.size W x) => rdecR_any L (.slice dl lk cdp) x (HC.out.below hb))
      have HDL := Lib.hid (decR_lok HC.out.1)
      generalize decR L = d at *
      generalize errR L = DE at *
      go_enter Tryd.func6, Tryd.ntmps6
      go_wp2_with (first
        | (go_at_call 10; (with_reducible refine (hsh _ (Below.refl _ _)).mono ?_); rintro e w' ⟨rfl, rfl⟩)
        | (go_at_call 13; (with_reducible refine h1.mono ?_); rintro e w2 ⟨v2, rfl, hr2, hb2⟩; have O2 := Lib.hid hr2; have B2 := Lib.hid hb2; clear h1 hr2 hb2)
        | (go_at_call 12; (with_reducible refine (h2.out _ _ _ O2.out B2.out.size).mono ?_); rintro e w3 ⟨c, v3, rfl, hwc, hlc, ⟨a3, n3, c3, rfl, ho3⟩, hb3⟩; have HLc := Lib.hid hlc.lok; have S3 := Lib.hid (SkR.new ho3); have B3 := Lib.hid (bal (bgo B2.out hb3) (.cells #[.int .i64 c.S, .int .i64 c.T, .int .i64 c.K, .slice a3 n3 c3, .bool c.s] 28)); clear h2 hwc hlc ho3 hb3 B2 O2; have f1 := (fun (w : World) (hv : RdL c.L (.slice a3 n3 c3) w) => pencR_any c.S c.T c.K c.L c.s a3 n3 c3 w hv HLc.out); have f2 := (fun (w : World) (hv : RdL c.L (.slice a3 n3 c3) w) => rencR_any c.S c.T c.K c.L c.s a3 n3 c3 w hv HLc.out); have HBK : Hid (∀ h : valR c.S c.T c.K c.L = 0, decR (codR ⟨c.S, c.T, c.K, c.L, c.s⟩) = c ∧ errR (codR ⟨c.S, c.T, c.K, c.L, c.s⟩) = 0) := Lib.hid (fun h => decR_cod c.s h); generalize codR ⟨c.S, c.T, c.K, c.L, c.s⟩ = R at *; generalize valR c.S c.T c.K c.L = E at *; obtain ⟨p0, p1, p2, p3, p4⟩ := S3.out.cells)
        | (go_at_call 29; (with_reducible refine (f1 _ S3.out.lv).mono ?_); rintro e w4 ⟨v4, rfl, ho4, hb4⟩; have S4 := Lib.hid (S3.out.go hb4); have B4 := Lib.hid (bgo B3.out hb4); have O4 := Lib.hid ho4.rd; clear f1 ho4 hb4 S3 B3 p0 p1 p2 p3 p4; obtain ⟨p0, p1, p2, p3, p4⟩ := S4.out.cells)
        | (go_at_call 30; (with_reducible refine (f2 _ S4.out.lv).mono ?_); rintro e w5 ⟨v5, rfl, ho5, hb5⟩; have S5 := Lib.hid (S4.out.go hb5); have B5 := Lib.hid (bgo B4.out hb5); have P5 := Lib.hid ho5.rd; have O5 := Lib.hid (O4.out.below hb5); clear f2 ho5 hb5 S4 B4 O4 p0 p1 p2 p3 p4)
        | (go_at_call 31; (with_reducible refine (HD1.out _ B5.out).mono ?_); rintro e w6 ⟨u6, rfl, ⟨a6, n6, c6, rfl, ho6⟩, hb6⟩; have HDD := Lib.hid (SkR.new ho6); have S6 := Lib.hid ((S5.out.go hb6).al (.cells #[.int .i64 d.S, .int .i64 d.T, .int .i64 d.K, .slice a6 n6 c6, .bool d.s] 28)); have B6 := Lib.hid (bal (bgo B5.out hb6) (.cells #[.int .i64 d.S, .int .i64 d.T, .int .i64 d.K, .slice a6 n6 c6, .bool d.s] 28)); have P6 := Lib.hid ((P5.out.below hb6).below (b1 (.cells #[.int .i64 d.S, .int .i64 d.T, .int .i64 d.K, .slice a6 n6 c6, .bool d.s] 28))); have O6 := Lib.hid ((O5.out.below hb6).below (b1 (.cells #[.int .i64 d.S, .int .i64 d.T, .int .i64 d.K, .slice a6 n6 c6, .bool d.s] 28))); clear ho6 hb6 S5 B5 P5 O5)
        | (go_at_call 32; (with_reducible refine (HD2.out _ B6.out).mono ?_); rintro e w7 ⟨u7, rfl, ⟨a7, n7, c7, rfl, ho7⟩, hb7⟩; have HEE := Lib.hid (SkR.new ho7); have HD7 := Lib.hid ((HDD.out.go hb7).al (.cells #[.int .i64 d.S, .int .i64 d.T, .int .i64 d.K, .slice a7 n7 c7, .bool d.s] 28)); have S7 := Lib.hid ((S6.out.go hb7).al (.cells #[.int .i64 d.S, .int .i64 d.T, .int .i64 d.K, .slice a7 n7 c7, .bool d.s] 28)); have B7 := Lib.hid (bal (bgo B6.out hb7) (.cells #[.int .i64 d.S, .int .i64 d.T, .int .i64 d.K, .slice a7 n7 c7, .bool d.s] 28)); have P7 := Lib.hid ((P6.out.below hb7).below (b1 (.cells #[.int .i64 d.S, .int .i64 d.T, .int .i64 d.K, .slice a7 n7 c7, .bool d.s] 28))); have O7 := Lib.hid ((O6.out.below hb7).below (b1 (.cells #[.int .i64 d.S, .int .i64 d.T, .int .i64 d.K, .slice a7 n7 c7, .bool d.s] 28))); clear ho7 hb7 S6 B6 P6 O6 HDD; have cv1 := O7.out.conv; have cv2 := P7.out.conv; obtain ⟨p0, p1, p2, p3, p4⟩ := S7.out.cells; obtain ⟨q0, q1, q2, q3, q4⟩ := HD7.out.cells; obtain ⟨t0, t1, t2, t3, t4⟩ := HEE.out.cells)
        | (go_at_call 19; (with_reducible refine (sameR_any d _ _ _ HD7.out.rd HEE.out.rd HDL.out).mono ?_); rintro e w8 ⟨rfl, hb8⟩; have S8 := Lib.hid (S7.out.go hb8); have B8 := Lib.hid (bgo B7.out hb8); have O8 := Lib.hid (O7.out.below hb8); clear hb8 S7 B7 O7 P7 HD7 HEE cv1 cv2 p0 p1 p2 p3 p4 q0 q1 q2 q3 q4 t0 t1 t2 t3 t4)
        | (go_at_call 31; (have hE : E = 0 := eq_of_beq (by assumption)); obtain ⟨k1, k2⟩ := HBK.out hE; have hd := pdecR_any R v4 _ O8.out; rw [k1, k2] at hd; clear k1 k2 hE; (with_reducible refine hd.mono ?_); rintro e w9 ⟨u9, rfl, ⟨a9, n9, c9, rfl, ho9⟩, hb9⟩; have D9 := Lib.hid (SkR.new ho9); have S9 := Lib.hid ((S8.out.go hb9).al (.cells #[.int .i64 c.S, .int .i64 c.T, .int .i64 c.K, .slice a9 n9 c9, .bool c.s] 28)); have B9 := Lib.hid (bal (bgo B8.out hb9) (.cells #[.int .i64 c.S, .int .i64 c.T, .int .i64 c.K, .slice a9 n9 c9, .bool c.s] 28)); clear ho9 hb9 S8 B8 O8 hd; obtain ⟨p0, p1, p2, p3, p4⟩ := S9.out.cells; obtain ⟨q0, q1, q2, q3, q4⟩ := D9.out.cells)
        | (go_at_call 19; (with_reducible refine (sameR_any c _ _ _ S9.out.rd D9.out.rd HLc.out).mono ?_); rintro e w10 ⟨rfl, hb10⟩; have B10 := Lib.hid (bgo B9.out hb10); clear hb10 S9 B9 D9 p0 p1 p2 p3 p4 q0 q1 q2 q3 q4)
        | (go_at_call 11; (with_reducible refine (hkn.out _ B10.out).mono ?_); rintro e wz ⟨rfl, hbz⟩; have BZ := Lib.hid (bgo B10.out hbz); clear hbz)
        | (go_at_call 11; (with_reducible refine (hkn.out _ B8.out).mono ?_); rintro e wz ⟨rfl, hbz⟩; have BZ := Lib.hid (bgo B8.out hbz); clear hbz))
      all_goals
        go_ret
        exact ⟨rfl, BZ.out⟩
  · rw [decide_eq_false hs] at hsh
    clear h1 h2 HC
    go_enter Tryd.func6, Tryd.ntmps6
    go_wp2_with (first
      | (go_at_call 10; (with_reducible refine (hsh _ (Below.refl _ _)).mono ?_); rintro e w' ⟨rfl, rfl⟩)
      | (go_at_call 11; (with_reducible refine (hkn.out _ (Below.refl _ _)).mono ?_); rintro e w2 ⟨rfl, hb2⟩; have B2 := Lib.hid hb2; clear hb2))
    go_ret
    exact ⟨rfl, B2.out⟩
end Go.Proofs.YtdifilhfmbpalaaDoor
