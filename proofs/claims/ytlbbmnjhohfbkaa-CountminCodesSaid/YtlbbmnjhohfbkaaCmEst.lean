/- The contract of countmin.Estimate. -/
import Derived.Test.YtlbbmnjhohfbkaaCmIns
import Derived.Deep.RegionHeld3
namespace Go.Proofs.Ytlbbmnjhohfbkaa
open Go.RowKit
set_option linter.unusedVariables false
set_option linter.unusedSimpArgs false
theorem getD_bd {L : List Int} (h : ∀ n ∈ L, 0 ≤ n ∧ n ≤ 4294967295) (j : Nat) : 0 ≤ L.getD j 0 ∧ L.getD j 0 ≤ 4294967295 := by
  by_cases hj : j < L.length
  · have := h L[j] (List.getElem_mem hj)
    simpa [List.getD, hj] using this
  · simp [List.getD, List.getElem?_eq_none (Nat.le_of_not_lt hj)]
theorem estUp_bd {x S : Int} {k : ByteArray} {L : List Int} (h : ∀ n ∈ L, 0 ≤ n ∧ n ≤ 4294967295) : ∀ r, 0 ≤ estUp x S k L r ∧ estUp x S k L r ≤ 4294967295
  | 0 => by unfold estUp; omega
  | r + 1 => by
    have := estUp_bd (x := x) (S := S) (k := k) h r
    have := getD_bd h (celI x S k r)
    unfold estUp
    omega
/-- The state of an estimate. -/
def EstS (W : World) (h g N : Nat) (D S x : Int) (v : Value) (s : Bool) (k : ByteArray) (w : World) : Prop := CSt h D S x v s w ∧ Adr g N x S k w ∧ Below h W w
set_option maxRecDepth 100000 in
set_option maxHeartbeats 4000000 in
theorem cest_any (c : CM) (v : Value) (k : ByteArray) (w : World) (hc : WfC c) (hv : RdC c v w) (hk : k.size ≤ maxLen) :
    Calls Try.prog 25 #[v, .string k] w fun e w' =>
      e = .returned (.tuple #[.int .i64 (cmEst c k), .int .i64 (cmEstE c k)]) ∧ Below w.heap.size w w' := by
  obtain ⟨D, S, x, L, s⟩ := c
  obtain ⟨⟨D0, D1⟩, ⟨S0, S1⟩, x0, x1⟩ := hc
  obtain ⟨a, n, cap, rfl, hR⟩ := hv
  dsimp only at D0 D1 S0 S1 x0 x1 hR ⊢
  have h1 := fun (w' : World) (hb : Below w.heap.size w w') => cval_any D S x L a n cap s w' D0 D1 S0 S1 (hR.below hb)
  have h2 := fun w => isKey_any k w hk
  have C0 := Lib.hid (CSt.new D S x (.slice a n cap) s 26 w)
  have HB0 := Lib.hid (b1 (a := w) (.cells #[.int .i64 D, .int .i64 S, .int .u64 x, .slice a n cap, .bool s] 26))
  unfold cmEst cmEstE
  dsimp only
  by_cases hE : cmE D S L = 0
  · rw [hE, if_neg (show ¬ (0 : Int) ≠ 0 by simp)]
    have hok := cmE_ok hE
    rw [hE] at h1
    by_cases hF : keyB (byt k) = false
    · rw [if_pos hF, if_pos (by decide)]
      rw [hF] at h2
      clear hF hE hok
      go_enter Try.func25, Try.ntmps25
      go_wp2_with (first
        | (go_at_call 21; refine (h1 _ HB0.out).mono ?_; rintro e w2 ⟨rfl, hb2⟩; have B2 := Lib.hid (bgo HB0.out hb2); clear hb2)
        | (go_at_call 35; refine (h2 _).mono ?_; rintro e w' ⟨rfl, rfl⟩))
      go_ret2
      exact ⟨rfl, B2.out⟩
    · have hkey : keyB (byt k) = true := by simpa using hF
      rw [if_neg hF, if_neg (show ¬ (0 : Int) ≠ 0 by simp)]
      rw [hkey] at h2
      obtain ⟨⟨o1, o2, o3, o4⟩, o5, o6⟩ := hok
      obtain ⟨N, rfl⟩ : ∃ N : Nat, D = (N : Int) := ⟨D.toNat, by omega⟩
      rw [Int.toNat_natCast]
      have hNS : 1 * 1 ≤ (N : Int) * S := Int.mul_le_mul o1 o3 (by omega) (by omega)
      have hNS2 : (N : Int) * S ≤ 8 * 64 := Int.mul_le_mul o2 o4 (by omega) (by omega)
      have hlen : 1 ≤ L.length ∧ L.length ≤ 512 := by omega
      have HCI := Lib.hid (fun (r : Nat) (hr : r < N) => celI_lt (x := x) (D := N) (S := S) (k := k) (r := r) (n := L.length) o3 (by omega) o5)
      have HE0 := Lib.hid (show estUp x S k L 0 = 4294967295 from rfl)
      have HEB := Lib.hid (fun r => estUp_bd (x := x) (S := S) (k := k) o6 r)
      have HGB := Lib.hid (fun r => getD_bd o6 r)
      have HES : Hid (∀ r, estUp x S k L (r + 1) = min (estUp x S k L r) (L.getD (celI x S k r) 0)) := Lib.hid (fun r => rfl)
      have HR := Lib.hid hR
      obtain ⟨a', cap', he⟩ := hR.shape
      simp only [Value.slice.injEq] at he
      obtain ⟨rfl, rfl, rfl⟩ := he
      clear hE hF
      go_enter Try.func25, Try.ntmps25
      go_wp2_with (first
        | (go_at_call 21; refine (h1 _ HB0.out).mono ?_; rintro e w2 ⟨rfl, hb2⟩; have B2 := Lib.hid (bgo HB0.out hb2); have C2 := Lib.hid (C0.out.below hb2 (by simp)); have L2 := Lib.hid (show w.heap.size < w2.heap.size by have := hb2.size; simp at this; omega); obtain ⟨⟨q20, q21, q22, q23, q24⟩, f20, f21, f22, f23, f24⟩ := C2.out; clear hb2)
        | (go_at_call 35; refine (h2 _).mono ?_; rintro e w' ⟨rfl, rfl⟩)
        | (go_at_call 46; refine (adr_any N S x _ s k _ ⟨_, _, _, rfl⟩ (by omega) ⟨o3, o4⟩ x0 x1 hk hkey).mono ?_; rintro e w5 ⟨g, rfl, hg1, hg2, ha, hb5⟩; have HI := Lib.hid (show EstS w w.heap.size g N N S x (.slice a L.length cap) s k w5 from ⟨C2.out.below hb5 L2.out, ha, B2.out.trans (hb5.mono (Nat.le_of_lt L2.out))⟩); clear ha hb5 hg1 hg2))
      clear q20 q21 q22 q23 q24 f20 f21 f22 f23 f24 C0 C2 L2 B2 HB0 h1 h2 hR
      go_loopw [7, 9, 22] (fun l _ i wr => ∃ r : Nat, r ≤ N ∧ i = .int .i64 (r : Int) ∧ l = .int .i64 (estUp x S k L r) ∧ Hid (EstS w w.heap.size g N N S x (.slice a L.length cap) s k wr)) (fun _ _ i _ => N - (intOf i).toNat)
      case atStart => exact ⟨0, by omega, rfl, by rw [HE0.out], HI⟩
      case round =>
        clear HI
        obtain ⟨r, hr, rfl, rfl, HI⟩ := hrel
        by_cases hlt : r < N
        · have hcell := HI.out.2.1 r hlt
          have hcn := fun w => by
            have h := cnum_any r (colN x S k r) S w (by omega) (by have := colI_bd x r S k o3; have := colN_eq x S k r o3; omega) (by omega) o4
            rw [colN_eq x S k r o3, ← celI_eq x S k r o3] at h
            exact h
          obtain ⟨⟨q0, q1, q2, q3, q4⟩, _⟩ := HI.out.1
          have hrN : (r : Int) < (N : Int) := by omega
          obtain ⟨_, a6, cap6, he6, _, _, hc6⟩ := HR.out.below HI.out.2.2
          simp only [Value.slice.injEq, true_and] at he6
          obtain ⟨rfl, rfl⟩ := he6
          obtain ⟨b6, off6, rfl, hb6, hcell6⟩ := hc6 (by omega)
          have hcc := hcell6 (celI x S k r) (HCI.out r hlt)
          have hil : ((celI x S k r : Nat) : Int) < (L.length : Int) := by have := HCI.out r hlt; omega
          have hi0 : (0 : Int) ≤ ((celI x S k r : Nat) : Int) := by omega
          have hE1 := HEB.out r
          have hG1 := HGB.out (celI x S k r)
          have HES1 := Lib.hid (HES.out r)
          clear o5 hNS hNS2 hcell6 hc6 o6
          generalize L.getD (celI x S k r) 0 = z at *
          generalize celI x S k r = i at *
          generalize colN x S k r = c at *
          generalize estUp x S k L r = m at *
          go_wp2
          go_region_held3 (fun w' => w'.cell? ⟨w.heap.size, 1, none⟩ = some (.int .i64 S) ∧ w'.cell? ⟨w.heap.size, 3, none⟩ = some (.slice (some ⟨b6, off6, none⟩) L.length cap) ∧ w'.cell? ⟨b6, off6 + i, none⟩ = some (.int .i64 z)) (go_keep)
            (first | (go_at_call 48; refine (hcn _).mono ?_; rintro e w' ⟨rfl, rfl⟩))
          all_goals
            go_wp2
            go_roundw
            case rel => exact ⟨r + 1, by omega, by go_num, by rw [HES1.out], Lib.hid ⟨HI.out.1, HI.out.2.1, HI.out.2.2.drew⟩⟩
            case measure => simp [intOf]; omega
        · obtain rfl : r = N := by omega
          go_wp2
          go_ret2
          exact ⟨rfl, HI.out.2.2⟩
  · rw [if_pos hE, if_pos hE]
    have hE2 : (cmE D S L != 0) = true := by simpa using hE
    generalize cmE D S L = E at *
    clear hE
    go_enter Try.func25, Try.ntmps25
    go_wp2_with (go_at_call 21; refine (h1 _ HB0.out).mono ?_; rintro e w2 ⟨rfl, hb2⟩; have B2 := Lib.hid (bgo HB0.out hb2); clear hb2)
    go_ret2
    exact ⟨rfl, B2.out⟩
end Go.Proofs.Ytlbbmnjhohfbkaa
