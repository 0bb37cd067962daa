/- The contracts of the reference's within, find, ValidateTop. -/
import Derived.Test.YtmmdnomfpfcjiaaTopN
namespace Go.Proofs.Ytmmdnomfpfcjiaa
open Go.RowKit
set_option linter.unusedVariables false
set_option linter.unusedSimpArgs false
/-- The first of the m entries from i on that has key k; -1 if there is none. -/
def findFrom (L : List Ent) (k : ByteArray) : Nat → Nat → Int
  | 0, _ => -1
  | m + 1, i => if sameK (L.getD i Ent.z).k k = true then (i : Int) else findFrom L k m (i + 1)
def findI (L : List Ent) (k : ByteArray) : Int := findFrom L k L.length 0
theorem findFrom_cases (L : List Ent) (k : ByteArray) : ∀ m i, i + m = L.length → hasK (L.take i) k = false → (hasK L k = true ∧ ∃ j, j < L.length ∧ findFrom L k m i = (j : Int) ∧ sameK (L.getD j Ent.z).k k = true) ∨ (hasK L k = false ∧ findFrom L k m i = -1)
  | 0, i, h, hh => .inr ⟨by rw [show i = L.length by omega, List.take_length] at hh; exact hh, rfl⟩
  | m + 1, i, h, hh => by
    unfold findFrom
    cases hs : sameK (L.getD i Ent.z).k k with
    | true =>
      rw [if_pos rfl]
      refine .inl ⟨?_, i, by omega, rfl, hs⟩
      unfold hasK
      rw [List.any_eq_true]
      refine ⟨L[i], List.getElem_mem (by omega), ?_⟩
      have : L.getD i Ent.z = L[i] := by simp [List.getD, show i < L.length by omega]
      rw [← this]
      exact hs
    | false =>
      rw [if_neg (by simp)]
      exact findFrom_cases L k m (i + 1) (by omega) (by rw [hasK_succ (by omega), hh, hs]; rfl)
theorem findI_cases (L : List Ent) (k : ByteArray) : (hasK L k = true ∧ ∃ j, j < L.length ∧ findI L k = (j : Int) ∧ sameK (L.getD j Ent.z).k k = true) ∨ (hasK L k = false ∧ findI L k = -1) := findFrom_cases L k _ 0 (by omega) (by simp [hasK])
theorem findI_bd (L : List Ent) (k : ByteArray) : -1 ≤ findI L k ∧ findI L k < L.length ∨ findI L k = -1 := by
  rcases findI_cases L k with ⟨_, j, h, e, _⟩ | ⟨_, e⟩
  · left; omega
  · right; exact e
theorem findI_has (L : List Ent) (k : ByteArray) : decide (0 ≤ findI L k) = hasK L k := by
  rcases findI_cases L k with ⟨h, j, _, e, _⟩ | ⟨h, e⟩
  · rw [h, e]; simp
  · rw [h, e]; rfl
theorem RdE.take {L : List Ent} {a : Option Addr} {n cap : Nat} {w : World} (h : RdE L (.slice a n cap) w) {i : Nat} (hi : i ≤ L.length) : RdE (L.take i) (.slice a i cap) w := by
  obtain ⟨hy, a', cap', he, h1, h2, h3⟩ := h
  simp only [Value.slice.injEq] at he
  obtain ⟨rfl, rfl, rfl⟩ := he
  have hl : (L.take i).length = i := by rw [List.length_take]; omega
  refine ⟨hy.take i, a, cap, by rw [hl], by rw [hl]; omega, h2, fun hp => ?_⟩
  rw [hl] at hp
  obtain ⟨b, off, rfl, hb, hc⟩ := h3 (by omega)
  refine ⟨b, off, rfl, hb, fun j hj => ?_⟩
  rw [hl] at hj
  have e : (L.take i).getD j Ent.z = L.getD j Ent.z := by simp [List.getD, List.getElem?_take, hj]
  rw [e]
  exact hc j (by omega)
theorem within_any (n l h : Int) (w : World) : Calls Try.prog 35 #[.int .i64 n, .int .i64 l, .int .i64 h] w fun e w' => e = .returned (.bool (decide (l ≤ n) && decide (n ≤ h))) ∧ w = w' := by
  go_enter Try.func35, Try.ntmps35
  go_wp2
  all_goals
    go_ret
    exact ⟨ret_bool (by first | rfl | (rw [Bool.eq_iff_iff]; simp [*] <;> omega)), rfl⟩
set_option maxRecDepth 100000 in
set_option maxHeartbeats 1000000 in
theorem rfind_any (L : List Ent) (k : ByteArray) (a : Option Addr) (n cap : Nat) (w : World) (hr : RdE L (.slice a n cap) w) (hn : L.length ≤ 549755813888) :
    Calls Try.prog 31 #[.slice a n cap, .string k] w fun e w' => e = .returned (.int .i64 (findI L k)) ∧ w = w' := by
  obtain ⟨a', cap', he⟩ := hr.shape
  simp only [Value.slice.injEq] at he
  obtain ⟨rfl, rfl, rfl⟩ := he
  have HR := Lib.hid hr
  clear hr
  obtain ⟨V, hV⟩ : ∃ V, V = findI L k := ⟨_, rfl⟩
  rw [← hV]
  have HV := Lib.hid hV
  clear hV
  go_enter Try.func31, Try.ntmps31
  go_wp2
  go_loop [5] (fun i => ∃ j : Nat, j ≤ L.length ∧ i = .int .i64 (j : Int) ∧ Hid (findFrom L k (L.length - j) j = V)) (fun i => L.length - (intOf i).toNat)
  case atStart => exact ⟨0, by omega, rfl, Lib.hid (by rw [Nat.sub_zero]; exact HV.out.symm)⟩
  case round =>
    clear HV
    obtain ⟨j, hj, rfl, HV⟩ := hrel
    by_cases hlt : j < L.length
    · have hlt2 : (j : Int) < (L.length : Int) := by omega
      have hv := HV.out
      rw [show L.length - j = (L.length - (j + 1)) + 1 by omega] at hv
      unfold findFrom at hv
      obtain ⟨-, a1, cap1, he1, -, -, hc1⟩ := HR.out
      simp only [Value.slice.injEq, true_and] at he1
      obtain ⟨rfl, rfl⟩ := he1
      obtain ⟨b, off, rfl, hb, hcell⟩ := hc1 (by omega)
      obtain ⟨c0, c1, c2⟩ := hcell j hlt
      clear hc1 hcell c1 c2
      generalize L.getD j Ent.z = X at *
      cases hs : sameK X.k k with
      | true =>
        rw [hs, if_pos rfl] at hv
        subst hv
        have hs2 : (X.k.toList == k.toList) = true := hs
        clear hs
        go_wp2
        go_ret
        exact ⟨rfl, rfl⟩
      | false =>
        rw [hs, if_neg (by simp)] at hv
        have HV2 := Lib.hid hv
        have hs2 : (X.k.toList == k.toList) = false := hs
        clear hs hv
        go_wp2
        go_round
        case rel => exact ⟨j + 1, by omega, by go_num, HV2⟩
        case measure => simp [intOf]; omega
    · obtain rfl : j = L.length := by omega
      have hv := HV.out
      rw [Nat.sub_self] at hv
      subst hv
      go_wp2
      go_ret
      exact ⟨rfl, rfl⟩
end Go.Proofs.Ytmmdnomfpfcjiaa
