/- sort.Search; the place of a commit in a list of pins. -/
import Derived.Test.YtledpfdflcmlcaaPnR
import Derived.Shelf.Abstract
import Derived.Deep.QuietTactic
import Derived.BigQuiet
import Derived.Lib.Walk
import Derived.Deep.CutBlock
import Derived.Deep.CutRange
namespace Go.Proofs.Ytledpfdflcmlcaa
open Go.RowKit
set_option linter.unusedVariables false
set_option linter.unusedSimpArgs false
/-- A closure that answers p below n, and only draws. -/
def TellsS (f : FuncId) (c1 c2 : Value) (p : Nat → Bool) (n : Nat) (w : World) : Prop :=
  (∀ args w, (callFunc f args).run Try.prog w = .ok (.enter f args) w) ∧ ∀ m i, i < n → Calls Try.prog f #[.int .i64 (i : Int), c1, c2] (w.drewN m) fun e w' => e = .returned (.bool (p i)) ∧ ∃ m', w' = w.drewN m'
set_option maxRecDepth 100000 in
set_option maxHeartbeats 2000000 in
theorem search_any (f : FuncId) (c1 c2 : Value) (p : Nat → Bool) (n : Nat) (w : World) (ht : TellsS f c1 c2 p n w) (hp : ∀ i j, i ≤ j → j < n → p i = true → p j = true) (hn : n ≤ 549755813888) :
    Calls Try.prog 27 #[.int .i64 (n : Int), .func (.func f) #[] #[c1, c2]] w fun e w' =>
      ∃ k m, k ≤ n ∧ (∀ i, i < k → p i = false) ∧ (k < n → p k = true) ∧ e = .returned (.int .i64 (k : Int)) ∧ w' = w.drewN m := by
  obtain ⟨he, hf⟩ := ht
  have HF := Lib.hid hf
  have HP := Lib.hid hp
  clear hf hp
  go_enter Try.func27, Try.ntmps27
  go_wp2
  go_loopw [5, 6] (fun vi vj wr => ∃ i j m : Nat, i ≤ j ∧ j ≤ n ∧ vi = .int .i64 (i : Int) ∧ vj = .int .i64 (j : Int) ∧ wr = w.drewN m ∧ Hid ((∀ x, x < i → p x = false) ∧ (j < n → p j = true))) (fun vi vj _ => (intOf vj).toNat - (intOf vi).toNat)
  case atStart => exact ⟨0, n, 0, Nat.zero_le _, Nat.le_refl _, rfl, rfl, rfl, Lib.hid ⟨fun x hx => absurd hx (Nat.not_lt_zero _), fun h => absurd h (Nat.lt_irrefl _)⟩⟩
  case round =>
    obtain ⟨i, j, m, hij, hjn, rfl, rfl, rfl, HI⟩ := hrel
    by_cases hlt : i < j
    · have hlt2 : (i : Int) < (j : Int) := by omega
      obtain ⟨h, hh⟩ : ∃ h, h = (i + j) / 2 := ⟨_, rfl⟩
      have hih : i ≤ h := by omega
      have hhj : h < j := by omega
      have hd : ((i : Int) + (j : Int)) / 2 = (h : Int) := by omega
      have hw1 : IntKind.u64.wrap ((i : Int) + (j : Int)) = (i : Int) + (j : Int) := by rw [IntKind.wrap_u64]; omega
      have hw2 : wrap64 ((i : Int) + (j : Int)) = (i : Int) + (j : Int) := by unfold wrap64; omega
      have hw4 : IntKind.i64.wrap (h : Int) = (h : Int) := by rw [IntKind.wrap_i64]; omega
      have hw5 : wrap64 (h : Int) = (h : Int) := by unfold wrap64; omega
      have hw6 : IntKind.u64.wrap (h : Int) = (h : Int) := by rw [IntKind.wrap_u64]; omega
      clear hh
      have HC := Lib.hid (HF.out m h (by omega))
      cases hph : p h
      · have hc := HC.out
        rw [hph] at hc
        have HC2 := Lib.hid hc
        have hnx : ∀ x, x < h + 1 → p x = false := fun x hx => by
          cases hx2 : p x with
          | false => rfl
          | true =>
            have h3 := HP.out x h (by omega) (by omega) hx2
            rw [hph] at h3
            cases h3
        have HNX : Hid ((∀ x, x < h + 1 → p x = false) ∧ (j < n → p j = true)) := Lib.hid ⟨hnx, HI.out.2⟩
        clear hnx
        clear hc HC hph
        go_wp2_with ((with_reducible refine HC2.out.mono ?_); rintro e w' ⟨rfl, m', rfl⟩)
        exact ⟨⟨h + 1, j, m', by omega, hjn, by go_num, rfl, rfl, HNX⟩, by simp [intOf]; omega⟩
      · have hc := HC.out
        rw [hph] at hc
        have HC2 := Lib.hid hc
        have HNX : Hid ((∀ x, x < i → p x = false) ∧ (h < n → p h = true)) := Lib.hid ⟨HI.out.1, fun _ => hph⟩
        clear hc HC hph
        go_wp2_with ((with_reducible refine HC2.out.mono ?_); rintro e w' ⟨rfl, m', rfl⟩)
        exact ⟨⟨i, h, m', hih, by omega, rfl, by go_num, rfl, HNX⟩, by simp [intOf]; omega⟩
    · obtain rfl : i = j := by omega
      go_wp2
      go_ret
      exact ⟨_, m, hjn, HI.out.1, HI.out.2, rfl, rfl⟩
set_option maxRecDepth 100000 in
set_option maxHeartbeats 1000000 in
theorem find1_any (L : List Pn) (c : Int) (gk gs : Nat) (v : Value) (w : World) (h1 : w.cell? ⟨gk, 0, none⟩ = some v) (hv : RdPn L v w) (h2 : w.cell? ⟨gs, 0, none⟩ = some (.int .i64 c)) (m i : Nat) (hi : i < L.length) (hn : L.length ≤ 549755813888) :
    Calls Try.prog 28 #[.int .i64 (i : Int), .pointer (some ⟨gk, 0, none⟩), .pointer (some ⟨gs, 0, none⟩)] (w.drewN m) fun e w' => e = .returned (.bool (decide (c ≤ (L.getD i Pn.z).m))) ∧ ∃ m', w' = w.drewN m' := by
  obtain ⟨a, cap, rfl⟩ := hv.shape
  obtain ⟨b, o, rfl, -, hc0, hc1⟩ := hv.at_ hi
  have hok := (hv.1.at_ i).1
  generalize (L.getD i Pn.z).m = x at *
  have hi2 : (i : Int) < (L.length : Int) := by omega
  clear hv
  go_enter Try.func28, Try.ntmps28
  go_wp2
  go_quiet (fail)
  go_wp2
  go_ret
  exact ⟨rfl, _, World.drewN_drewN _ _ _⟩
theorem enters_find1 : ∀ args w, (callFunc 28 args).run Try.prog w = .ok (.enter 28 args) w := Go.Proofs.enters_of Try.func28 (by kernel_rfl) rfl
theorem Vd.sorted {L : List Pn} {k : Int} (h : Vd k L) : ∀ i j, i ≤ j → j < L.length → (L.getD i Pn.z).m ≤ (L.getD j Pn.z).m := by
  intro i j hij hj
  induction j with
  | zero => obtain rfl : i = 0 := by omega
            exact Int.le_refl _
  | succ j ih =>
    rcases Nat.lt_or_ge i (j + 1) with h1 | h1
    · have h2 := ih (by omega) (by omega)
      have h3 := (vd_at h (j + 1) hj).2.2
      rw [if_neg (by omega), show j + 1 - 1 = j from rfl] at h3
      omega
    · obtain rfl : i = j + 1 := by omega
      exact Int.le_refl _
/-- What find answers: the first place whose commit is at least c, and whether it is c. -/
def FindPost (L : List Pn) (c : Int) (w : World) (e : Ending) (w' : World) : Prop :=
  ∃ (k : Nat) (b : Bool), k ≤ L.length ∧ (∀ i, i < k → (L.getD i Pn.z).m < c) ∧ (k < L.length → c ≤ (L.getD k Pn.z).m) ∧ (b = true ↔ k < L.length ∧ (L.getD k Pn.z).m = c) ∧ e = .returned (.tuple #[.int .i64 (k : Int), .bool b]) ∧ Below w.heap.size w w'
set_option maxRecDepth 100000 in
set_option maxHeartbeats 2000000 in
theorem findPn_any (L : List Pn) (c : Int) (v : Value) (w : World) (hv : RdPn L v w) (hL : L.length ≤ 1000000) (hs : ∀ i j, i ≤ j → j < L.length → (L.getD i Pn.z).m ≤ (L.getD j Pn.z).m) :
    Calls Try.prog 20 #[v, .int .i64 c] w fun e w' => FindPost L c w e w' := by
  obtain ⟨a, cap, rfl⟩ := hv.shape
  have hv2 : RdPn L (.slice a L.length cap) ((w.alloc (.cells #[.slice a L.length cap] 23)).alloc (.cells #[.int .i64 c] 3)) := hv.below (b2 _ _)
  have hts : TellsS 28 (.pointer (some ⟨w.heap.size, 0, none⟩)) (.pointer (some ⟨w.heap.size + 1, 0, none⟩)) (fun i => decide (c ≤ (L.getD i Pn.z).m)) L.length ((w.alloc (.cells #[.slice a L.length cap] 23)).alloc (.cells #[.int .i64 c] 3)) :=
    ⟨enters_find1, fun m i hi => find1_any L c w.heap.size (w.heap.size + 1) (.slice a L.length cap) _ (by go_simp) hv2 (by go_simp) m i hi (by omega)⟩
  have HSE := Lib.hid (search_any _ _ _ _ L.length _ hts (fun i j hij hj hi => by
    have h1 := hs i j hij hj
    simp only [decide_eq_true_eq] at hi ⊢
    omega) (by omega))
  have HV := Lib.hid hv2
  clear hts hs hv hv2
  go_enter Try.func20, Try.ntmps20
  go_upto_region 2 with (go_at_call 27; (with_reducible refine HSE.out.mono ?_); rintro e w2 ⟨k, m, h0, h1, h2, rfl, rfl⟩; have H1 : Hid (∀ i, i < k → (L.getD i Pn.z).m < c) := Lib.hid (fun i hi => by have := h1 i hi; simp only [decide_eq_false_iff_not] at this; omega); have H2 : Hid (k < L.length → c ≤ (L.getD k Pn.z).m) := Lib.hid (fun hk => by have := h2 hk; simpa using this); clear h1 h2)
  have HB : Hid (Below w.heap.size w (((w.alloc (.cells #[.slice a L.length cap] 23)).alloc (.cells #[.int .i64 c] 3)).drewN m)) := Lib.hid (below_drewN (b2 _ _) m)
  by_cases hlt : k < L.length
  · obtain ⟨b, off, rfl, hbl, c0, c1⟩ := HV.out.at_ hlt
    have hok := (HV.out.1.at_ k).1
    have HK := Lib.hid hlt
    have hk2 : (k : Int) < (L.length : Int) := by omega
    obtain ⟨x, hx⟩ : ∃ x, x = (L.getD k Pn.z).m := ⟨_, rfl⟩
    rw [← hx] at c0
    have HX := Lib.hid hx
    clear hx hok
    go_quiet (fail)
    go_wp2
    go_ret2
    exact ⟨k, (x == c), h0, H1.out, H2.out, ⟨fun h => ⟨HK.out, by rw [← HX.out]; exact eq_of_beq h⟩, fun h => by rw [HX.out, h.2]; exact beq_self_eq_true c⟩, rfl, below_drewN HB.out _⟩
  · obtain rfl : k = L.length := by omega
    clear hlt
    go_quiet (fail)
    go_wp2
    go_ret2
    exact ⟨L.length, false, Nat.le_refl _, H1.out, H2.out, ⟨fun h => (by cases h), fun h => absurd h.1 (Nat.lt_irrefl _)⟩, rfl, below_drewN HB.out _⟩
end Go.Proofs.Ytledpfdflcmlcaa
