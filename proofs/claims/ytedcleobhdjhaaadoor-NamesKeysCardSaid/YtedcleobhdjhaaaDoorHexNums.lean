/- Hexadecimal digits, the form of a key and its reading, over lists of bytes: no function of the program. -/
import Derived.Test.YtedcleobhdjhaaaDoorValid
namespace Go.Proofs.YtedcleobhdjhaaaDoor
open Go.RowKit
set_option linter.unusedVariables false
set_option linter.unusedSimpArgs false
def hexd (n : Int) : Int := if n < 10 then 48 + n else 87 + n
def hexL : List Int → List Int
  | [] => []
  | c :: L => hexd (c / 16) :: hexd (c % 16) :: hexL L
def nib (c : Int) : Int := if inB c 48 57 then c - 48 else if inB c 97 102 then c - 87 else -1
def unhexL : List Int → Option (List Int)
  | [] => some []
  | [_] => none
  | a :: b :: r => if nib a < 0 ∨ nib b < 0 then none else (unhexL r).map fun M => (16 * nib a + nib b) :: M
def formK (L : List Int) : List Int × Int := if keyB L = false then ([], 7) else if L.all plaB then (L, 0) else (37 :: hexL L, 0)
/-- The key that is read, before it is compared. -/
def keyOf (L : List Int) : List Int := match L with | 37 :: D => (unhexL D).getD [] | _ => L
def parK (L : List Int) : List Int × Int := if formK (keyOf L) = (L, 0) then (keyOf L, 0) else ([], 1)
theorem nib_bd (c : Int) : -1 ≤ nib c ∧ nib c ≤ 15 := by
  unfold nib inB
  by_cases h1 : 48 ≤ c ∧ c ≤ 57
  · simp [h1.1, h1.2]; omega
  · by_cases h2 : 97 ≤ c ∧ c ≤ 102
    · have : ¬ (48 ≤ c ∧ c ≤ 57) := h1
      simp only [Bool.and_eq_true, decide_eq_true_eq, this, if_false, h2, and_self, if_true]; omega
    · simp only [Bool.and_eq_true, decide_eq_true_eq, h1, h2, if_false]; omega
theorem hexd_nib (c : Int) (h : 0 ≤ nib c) : hexd (nib c) = c := by
  unfold nib inB at h ⊢
  by_cases h1 : 48 ≤ c ∧ c ≤ 57
  · simp only [Bool.and_eq_true, decide_eq_true_eq, h1, and_self, if_true]
    unfold hexd
    rw [if_pos (by omega)]; omega
  · by_cases h2 : 97 ≤ c ∧ c ≤ 102
    · simp only [Bool.and_eq_true, decide_eq_true_eq, h1, h2, if_false, and_self, if_true]
      unfold hexd
      rw [if_neg (by omega)]; omega
    · simp only [Bool.and_eq_true, decide_eq_true_eq, h1, h2, if_false] at h
      omega
theorem nib_hexd (n : Int) (h0 : 0 ≤ n) (h1 : n ≤ 15) : nib (hexd n) = n := by
  unfold hexd
  by_cases h : n < 10
  · rw [if_pos h]
    unfold nib
    rw [inB_yes (by omega) (by omega)]; simp; omega
  · rw [if_neg h]
    unfold nib
    rw [inB_hi (by omega), inB_yes (by omega) (by omega)]; simp; omega
theorem hexd_bd (n : Int) (h0 : 0 ≤ n) (h1 : n ≤ 15) : 48 ≤ hexd n ∧ hexd n ≤ 102 := by unfold hexd; split <;> omega
theorem hexL_len : ∀ L, (hexL L).length = 2 * L.length
  | [] => rfl
  | c :: L => by rw [hexL, List.length_cons, List.length_cons, hexL_len L, List.length_cons]; omega
theorem hexL_app : ∀ L M, hexL (L ++ M) = hexL L ++ hexL M
  | [], M => rfl
  | c :: L, M => by simp [hexL, hexL_app L M]
theorem hexL_byt : ∀ {L}, Byt L → Byt (hexL L)
  | [], _ => Byt.nil
  | c :: L, h => by
    have hc := h c (by simp)
    have h1 := hexd_bd (c / 16) (by omega) (by omega)
    have h2 := hexd_bd (c % 16) (by omega) (by omega)
    exact Byt.cons (by omega) (Byt.cons (by omega) (hexL_byt fun n hn => h n (by simp [hn])))
theorem unhex_hex : ∀ {L}, Byt L → unhexL (hexL L) = some L
  | [], _ => rfl
  | c :: L, h => by
    have hc := h c (by simp)
    rw [hexL, unhexL, nib_hexd _ (by omega) (by omega), nib_hexd _ (by omega) (by omega), unhex_hex fun n hn => h n (by simp [hn]), if_neg (by omega)]
    simp; omega
theorem hex_unhex : ∀ (n : Nat) (D K : List Int), D.length ≤ n → unhexL D = some K → hexL K = D ∧ Byt K
  | _, [], K, _, h => by
    simp only [unhexL, Option.some.injEq] at h
    subst h
    exact ⟨rfl, Byt.nil⟩
  | _, [_], K, _, h => by simp [unhexL] at h
  | 0, a :: b :: r, K, hn, h => by simp at hn
  | n + 1, a :: b :: r, K, hn, h => by
    rw [unhexL] at h
    split at h
    · cases h
    · obtain ⟨K', hk, rfl⟩ := Option.map_eq_some_iff.1 h
      obtain ⟨h1, h2⟩ := hex_unhex n r K' (by simp at hn; omega) hk
      have ha := nib_bd a
      have hb := nib_bd b
      have e1 : (16 * nib a + nib b) / 16 = nib a := by omega
      have e2 : (16 * nib a + nib b) % 16 = nib b := by omega
      refine ⟨by rw [hexL, e1, e2, hexd_nib a (by omega), hexd_nib b (by omega), h1], Byt.cons (by omega) h2⟩
theorem pla37 : plaB 37 = false := by decide
theorem pla_head {L : List Int} (h : L.all plaB = true) (D : List Int) : L ≠ 37 :: D := by
  rintro rfl
  simp [pla37] at h
theorem keyOf_mark (D : List Int) : keyOf (37 :: D) = (unhexL D).getD [] := rfl
theorem keyOf_plain {L : List Int} (h : ∀ D, L ≠ 37 :: D) : keyOf L = L := by
  unfold keyOf
  split
  · exact absurd rfl (h _)
  · rfl
theorem keyB_nil : keyB [] = false := by decide
theorem parK_no {L : List Int} (h1 : ¬ (keyB L = true ∧ L.all plaB = true)) (h2 : ∀ D, L ≠ 37 :: D) : parK L = ([], 1) := by
  unfold parK
  rw [keyOf_plain h2, if_neg]
  unfold formK
  intro h
  split at h
  · simp at h
  · split at h
    · exact h1 ⟨by simp_all, by assumption⟩
    · have := congrArg Prod.fst h
      exact h2 _ this.symm
theorem parK_plain {L : List Int} (h1 : keyB L = true) (h2 : L.all plaB = true) : parK L = (L, 0) := by
  unfold parK
  rw [keyOf_plain (pla_head h2), if_pos]
  unfold formK
  rw [h1, if_neg (by simp), if_pos h2]
theorem parK_none {D : List Int} (h : unhexL D = none) : parK (37 :: D) = ([], 1) := by
  unfold parK
  rw [keyOf_mark, h, if_neg]
  simp [formK, keyB_nil]
theorem parK_bad {D K : List Int} (h : unhexL D = some K) (hb : keyB K = false ∨ K.all plaB = true) : parK (37 :: D) = ([], 1) := by
  unfold parK
  rw [keyOf_mark, h, if_neg]
  simp only [Option.getD_some, formK]
  intro e
  split at e
  · simp at e
  · split at e
    · have := congrArg Prod.fst e
      exact pla_head (by assumption) _ this
    · rcases hb with hb | hb
      · contradiction
      · contradiction
theorem parK_good {D K : List Int} (h : unhexL D = some K) (h1 : keyB K = true) (h2 : K.all plaB = false) : parK (37 :: D) = (K, 0) := by
  unfold parK
  rw [keyOf_mark, h, Option.getD_some, if_pos]
  unfold formK
  rw [h1, if_neg (by simp), h2, if_neg (by simp), (hex_unhex _ D K (Nat.le_refl _) h).1]
theorem form_byt {L : List Int} (h : Byt L) : Byt (formK L).1 := by
  unfold formK
  split
  · exact Byt.nil
  · split
    · exact h
    · exact Byt.cons (by omega) (hexL_byt h)
theorem keyOf_byt {L : List Int} (h : Byt L) : Byt (keyOf L) := by
  unfold keyOf
  split
  · cases hu : unhexL ‹List Int› with
    | none => exact Byt.nil
    | some K => exact (hex_unhex _ _ K (Nat.le_refl _) hu).2
  · exact h
/-- What was formatted is read back. -/
theorem par_form {L : List Int} (hy : Byt L) (h : (formK L).2 = 0) : parK (formK L).1 = (L, 0) := by
  unfold formK at h ⊢
  by_cases hk : keyB L = false
  · rw [if_pos hk] at h; simp at h
  · rw [if_neg hk]
    have hk' : keyB L = true := by simpa using hk
    by_cases hp : L.all plaB = true
    · rw [if_pos hp]; exact parK_plain hk' hp
    · rw [if_neg hp]
      exact parK_good (unhex_hex hy) hk' (by simpa using hp)
/-- What was read is formatted so. -/
theorem form_par {L : List Int} (h : (parK L).2 = 0) : formK (parK L).1 = (L, 0) := by
  unfold parK at h ⊢
  split at h
  · rw [if_pos (by assumption)]; assumption
  · simp at h
theorem formK_key (L : List Int) : ((formK L).2 = 0) ↔ keyB L = true := by
  unfold formK
  by_cases hk : keyB L = false
  · rw [if_pos hk, hk]; simp
  · rw [if_neg hk]
    have : keyB L = true := by simpa using hk
    simp only [this, iff_true]
    split <;> rfl
end Go.Proofs.YtedcleobhdjhaaaDoor
