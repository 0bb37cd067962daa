/- Settling levels. No program. -/
import Derived.Test.YtdifilhfmbpalaaDoorRkN
import Derived.Test.YtdifilhfmbpalaaDoorCoinNums
namespace Go.Proofs.YtdifilhfmbpalaaDoor
open Go.RowKit
set_option linter.unusedVariables false
set_option linter.unusedSimpArgs false
/-- Keys c are put to the first level. -/
def addC : List (List ByteArray) → List ByteArray → List (List ByteArray)
  | [], [] => []
  | [], x :: c => [x :: c]
  | l :: L, c => (l ++ c) :: L
/-- Every second key, t of them. -/
def pickn (b : Nat) (l : List ByteArray) (t : Nat) : List ByteArray := (List.range t).map fun i => l.getD (b + 2 * i) ByteArray.empty
def pick (b : Nat) (l : List ByteArray) : List ByteArray := pickn b l (l.length / 2)
/-- What has no neighbour. -/
def rst (l : List ByteArray) : List ByteArray := l.drop (l.length / 2 * 2)
def keysN : List (List ByteArray) → Nat
  | [] => 0
  | l :: L => l.length + keysN L
def mes (L : List (List ByteArray)) : Nat := 2 * keysN L + L.length
theorem pickn_len (b : Nat) (l : List ByteArray) (t : Nat) : (pickn b l t).length = t := by simp [pickn]
theorem pick_len (b : Nat) (l : List ByteArray) : (pick b l).length = l.length / 2 := pickn_len _ _ _
theorem pickn_succ (b : Nat) (l : List ByteArray) (t : Nat) : pickn b l (t + 1) = pickn b l t ++ [l.getD (b + 2 * t) ByteArray.empty] := by simp [pickn, List.range_succ]
theorem rst_len (l : List ByteArray) : (rst l).length = l.length % 2 := by unfold rst; rw [List.length_drop]; omega
theorem addC_nil (L : List (List ByteArray)) : addC L [] = L := by cases L <;> simp [addC]
theorem addC_keys (L : List (List ByteArray)) (c : List ByteArray) : keysN (addC L c) = keysN L + c.length := by
  cases L with
  | nil => cases c <;> simp [addC, keysN]
  | cons l L => simp [addC, keysN]; omega
theorem addC_len (L : List (List ByteArray)) (c : List ByteArray) : (addC L c).length ≤ max L.length 1 ∧ L.length ≤ (addC L c).length := by
  cases L with
  | nil => cases c <;> simp [addC]
  | cons l L => simp [addC]
theorem addC_mes (l : List ByteArray) (L : List (List ByteArray)) (c : List ByteArray) (h2 : 2 ≤ l.length) (hc : c.length = l.length / 2) : mes (addC L c) < mes (l :: L) := by
  have h1 := addC_keys L c
  have h3 := addC_len L c
  unfold mes
  rw [h1]
  simp only [keysN, List.length_cons]
  have : max L.length 1 ≤ L.length + 1 := by omega
  omega
/-- The levels from i on are settled: the levels, the slack, the position. -/
def stl (S : Int) (C : List Int) (i : Nat) (L : List (List ByteArray)) (K a : Int) : List (List ByteArray) × Int × Int :=
  match L with
  | [] => ([], K, a)
  | l :: L =>
    if h : (l.length : Int) < S ∨ l.length < 2 then
      (sortK l :: (stl S C (i + 1) L K a).1, (stl S C (i + 1) L K a).2)
    else
      (rst (sortK l) :: (stl S C (i + 1) (addC L (pick (bitI C a).toNat (sortK l))) (aS K (2 ^ i)) (a + 1)).1, (stl S C (i + 1) (addC L (pick (bitI C a).toNat (sortK l))) (aS K (2 ^ i)) (a + 1)).2)
termination_by mes L
decreasing_by
  all_goals first
    | exact addC_mes _ _ _ (by omega) (by rw [pick_len, sortK_len])
    | (simp only [mes, keysN, List.length_cons]; omega)
theorem stl_nil (S : Int) (C : List Int) (i : Nat) (K a : Int) : stl S C i [] K a = ([], K, a) := by rw [stl]
theorem stl_low {S : Int} (C : List Int) (i : Nat) {l : List ByteArray} (L : List (List ByteArray)) (K a : Int) (h : (l.length : Int) < S) :
    stl S C i (l :: L) K a = (sortK l :: (stl S C (i + 1) L K a).1, (stl S C (i + 1) L K a).2) := by rw [stl, dif_pos (.inl h)]
theorem stl_full {S : Int} (C : List Int) (i : Nat) {l : List ByteArray} (L : List (List ByteArray)) (K a : Int) (h : S ≤ (l.length : Int)) (h2 : 2 ≤ S) :
    stl S C i (l :: L) K a = (rst (sortK l) :: (stl S C (i + 1) (addC L (pick (bitI C a).toNat (sortK l))) (aS K (2 ^ i)) (a + 1)).1, (stl S C (i + 1) (addC L (pick (bitI C a).toNat (sortK l))) (aS K (2 ^ i)) (a + 1)).2) := by rw [stl, dif_neg (by omega)]
/-- What holds at each step holds of the whole. -/
theorem stl_ind {S : Int} {C : List Int} (h2 : 2 ≤ S) (P : Nat → List (List ByteArray) → Int → Int → List (List ByteArray) × Int × Int → Prop)
    (h0 : ∀ i K a, P i [] K a ([], K, a))
    (h1 : ∀ i l L K a r, (l.length : Int) < S → P (i + 1) L K a r → P i (l :: L) K a (sortK l :: r.1, r.2))
    (h3 : ∀ i l L K a r, S ≤ (l.length : Int) → P (i + 1) (addC L (pick (bitI C a).toNat (sortK l))) (aS K (2 ^ i)) (a + 1) r → P i (l :: L) K a (rst (sortK l) :: r.1, r.2)) :
    ∀ i L K a, P i L K a (stl S C i L K a) := by
  intro i L
  induction hm : mes L using Nat.strongRecOn generalizing i L with
  | _ m ih =>
    intro K a
    subst hm
    match L with
    | [] => rw [stl_nil]; exact h0 i K a
    | l :: L =>
      rcases Int.lt_or_le (l.length : Int) S with h | h
      · rw [stl_low C i L K a h]
        exact h1 i l L K a _ h (ih (mes L) (by simp only [mes, keysN, List.length_cons]; omega) (i + 1) L rfl K a)
      · rw [stl_full C i L K a h h2]
        exact h3 i l L K a _ h (ih _ (addC_mes _ _ _ (by omega) (by rw [pick_len, sortK_len])) (i + 1) _ rfl _ _)
theorem insN_addC (i : Nat) (L : List (List ByteArray)) (c : List ByteArray) : insN i (addC L c) = insN i L + c.length * 2 ^ i := by
  cases L with
  | nil => cases c <;> simp [addC, insN]
  | cons l L => simp only [addC, insN, List.length_append, Nat.add_mul]; omega
theorem half_sum (n i : Nat) : n % 2 * 2 ^ i + n / 2 * 2 ^ (i + 1) = n * 2 ^ i := by
  have e : n / 2 * 2 ^ (i + 1) = n / 2 * 2 * 2 ^ i := by rw [Nat.pow_succ, Nat.mul_assoc, Nat.mul_comm 2]
  rw [e, ← Nat.add_mul, Nat.mod_add_div' n 2]
theorem stl_ins {S : Int} {C : List Int} (h2 : 2 ≤ S) (i : Nat) (L : List (List ByteArray)) (K a : Int) : insN i (stl S C i L K a).1 = insN i L := by
  refine stl_ind h2 (fun i L K a r => insN i r.1 = insN i L) (fun _ _ _ => rfl) (fun i l L K a r _ h => ?_) (fun i l L K a r _ h => ?_) i L K a
  · dsimp only at h ⊢
    simp only [insN, h, sortK_len]
  · dsimp only at h ⊢
    rw [insN_addC] at h
    simp only [insN, h, rst_len, pick_len, sortK_len]
    have := half_sum l.length i
    omega
theorem lastE_cons {l m : List ByteArray} {L : List (List ByteArray)} : lastE (l :: m :: L) = lastE (m :: L) := by unfold lastE; simp
theorem lastE_addC {L : List (List ByteArray)} {c : List ByteArray} (h : lastE L = false) : lastE (addC L c) = false := by
  match L with
  | [] => cases c <;> simp [addC, lastE]
  | [l] =>
    unfold lastE at h ⊢
    simp [addC] at h ⊢
    intro h'
    exact absurd h' h
  | l :: m :: L =>
    rw [show addC (l :: m :: L) c = (l ++ c) :: m :: L from rfl, lastE_cons]
    rwa [lastE_cons] at h
theorem lastE_one {l : List ByteArray} : lastE [l] = decide (l.length = 0) := by unfold lastE; simp
theorem lastE_nil : lastE [] = false := by unfold lastE; simp
theorem lastE_tl {l : List ByteArray} {L : List (List ByteArray)} (h : lastE (l :: L) = false) : lastE L = false := by
  cases L with
  | nil => exact lastE_nil
  | cons m L => rwa [lastE_cons] at h
theorem lastE_ne {l : List ByteArray} {L : List (List ByteArray)} (h : lastE L = false) (hn : L ≠ []) : lastE (l :: L) = false := by
  cases L with
  | nil => exact absurd rfl hn
  | cons m L => rwa [lastE_cons]
/-- The last level keeps a key. -/
theorem stl_last {S : Int} {C : List Int} (h2 : 2 ≤ S) (i : Nat) (L : List (List ByteArray)) (K a : Int) (h : lastE L = false) : lastE (stl S C i L K a).1 = false ∧ (L ≠ [] → (stl S C i L K a).1 ≠ []) := by
  refine stl_ind h2 (fun i L K a r => lastE L = false → lastE r.1 = false ∧ (L ≠ [] → r.1 ≠ [])) (fun _ _ _ _ => ⟨lastE_nil, fun h => absurd rfl h⟩) (fun i l L K a r _ hr hl => ?_) (fun i l L K a r hs hr hl => ?_) i L K a h
  · refine ⟨?_, fun _ => by simp⟩
    cases L with
    | nil =>
      have h3 := (hr (lastE_tl hl)).1
      rw [lastE_one] at hl
      dsimp only
      cases hr1 : r.1 with
      | nil => rw [lastE_one, sortK_len]; exact hl
      | cons m M => rw [lastE_cons, ← hr1]; exact h3
    | cons m L => exact lastE_ne (hr (lastE_tl hl)).1 ((hr (lastE_tl hl)).2 (by simp))
  · refine ⟨?_, fun _ => by simp⟩
    have h4 := hr (lastE_addC (lastE_tl hl))
    refine lastE_ne h4.1 (h4.2 ?_)
    have := pick_len (bitI C a).toNat (sortK l)
    rw [sortK_len] at this
    cases L with
    | nil =>
      cases hp : pick (bitI C a).toNat (sortK l) with
      | nil => rw [hp] at this; simp at this; omega
      | cons x c => simp [addC]
    | cons m L => simp [addC]
theorem getD_sub {α : Type} {l m : List α} {d : α} {k : Nat} {p : α → Prop} (hp : ∀ x ∈ l, p x) (hk : k < l.length) : p (l.getD k d) := hp _ (getD_mem hk)
theorem pick_mem {b : Nat} {l : List ByteArray} (hb : b ≤ 1) {x : ByteArray} (h : x ∈ pick b l) : x ∈ l := by
  unfold pick pickn at h
  obtain ⟨i, hi, rfl⟩ := List.mem_map.1 h
  rw [List.mem_range] at hi
  exact getD_mem (by omega)
theorem bitI_nat (C : List Int) (a : Int) : (bitI C a).toNat ≤ 1 := by
  unfold bitI
  split
  · have := bitN_bd C a.toNat; omega
  · decide
theorem addC_all {p : ByteArray → Prop} {L : List (List ByteArray)} {c : List ByteArray} (h : ∀ l ∈ L, ∀ x ∈ l, p x) (hc : ∀ x ∈ c, p x) : ∀ l ∈ addC L c, ∀ x ∈ l, p x := by
  cases L with
  | nil =>
    cases c with
    | nil => simp [addC]
    | cons y c =>
      intro l hl
      simp only [addC, List.mem_singleton] at hl
      subst hl
      exact hc
  | cons m L =>
    intro l hl x hx
    simp only [addC, List.mem_cons] at hl
    rcases hl with rfl | hl
    · rcases List.mem_append.1 hx with hx | hx
      · exact h m (by simp) x hx
      · exact hc x hx
    · exact h l (by simp [hl]) x hx
theorem Asc.drop {l : List ByteArray} (h : Asc l) (k : Nat) : Asc (l.drop k) := List.Pairwise.sublist (List.drop_sublist k l) h
/-- What is settled is in order. -/
theorem stl_gd {S : Int} {C : List Int} (h2 : 2 ≤ S) (i : Nat) (L : List (List ByteArray)) (K a : Int) (h : ∀ l ∈ L, ∀ x ∈ l, keyB (byt x) = true) : ∀ l ∈ (stl S C i L K a).1, GdL S l := by
  refine stl_ind h2 (fun i L K a r => (∀ l ∈ L, ∀ x ∈ l, keyB (byt x) = true) → ∀ l ∈ r.1, GdL S l) (fun _ _ _ _ => by simp) (fun i l L K a r hs hr hk => ?_) (fun i l L K a r hs hr hk => ?_) i L K a h
  · intro m hm
    rcases List.mem_cons.1 hm with rfl | hm
    · exact ⟨by rw [sortK_len]; exact hs, fun x hx => hk l (by simp) x ((sortK_perm l).mem_iff.1 hx), sortK_sorted l⟩
    · exact hr (fun n hn => hk n (by simp [hn])) m hm
  · intro m hm
    have hks : ∀ x ∈ sortK l, keyB (byt x) = true := fun x hx => hk l (by simp) x ((sortK_perm l).mem_iff.1 hx)
    rcases List.mem_cons.1 hm with rfl | hm
    · refine ⟨by rw [rst_len]; omega, fun x hx => hks x (List.mem_of_mem_drop hx), (sortK_sorted l).drop _⟩
    · exact hr (addC_all (fun n hn => hk n (by simp [hn])) (fun x hx => hks x (pick_mem (bitI_nat C a) hx))) m hm
theorem stl_bd {S : Int} {C : List Int} (h2 : 2 ≤ S) (i : Nat) (L : List (List ByteArray)) (K a : Int) (k0 : 0 ≤ K) (k1 : K ≤ 1099511627776) :
    (0 ≤ (stl S C i L K a).2.1 ∧ (stl S C i L K a).2.1 ≤ 1099511627776) ∧ a ≤ (stl S C i L K a).2.2 ∧ (stl S C i L K a).2.2 ≤ a + (stl S C i L K a).1.length := by
  refine stl_ind h2 (fun i L K a r => 0 ≤ K → K ≤ 1099511627776 → (0 ≤ r.2.1 ∧ r.2.1 ≤ 1099511627776) ∧ a ≤ r.2.2 ∧ r.2.2 ≤ a + r.1.length) (fun _ _ _ h h' => ⟨⟨h, h'⟩, by simp⟩) (fun i l L K a r hs hr h h' => ?_) (fun i l L K a r hs hr h h' => ?_) i L K a k0 k1
  · have := hr h h'
    simp only [List.length_cons]
    omega
  · have := hr (aS_bd _ _).1 (aS_bd _ _).2
    simp only [List.length_cons]
    omega
/-- Nothing is compacted where no level is full. -/
theorem stl_none {S : Int} {C : List Int} : ∀ (i : Nat) (L : List (List ByteArray)) (K a : Int), (∀ l ∈ L, (l.length : Int) < S) → stl S C i L K a = (L.map sortK, K, a)
  | i, [], K, a, _ => by rw [stl_nil]; rfl
  | i, l :: L, K, a, h => by
    rw [stl_low C i L K a (h l (by simp)), stl_none (i + 1) L K a (fun m hm => h m (by simp [hm]))]
    rfl
end Go.Proofs.YtdifilhfmbpalaaDoor
