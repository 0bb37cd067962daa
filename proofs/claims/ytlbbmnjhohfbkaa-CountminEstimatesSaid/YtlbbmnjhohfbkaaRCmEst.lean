/- The contract of the reference's EstimateCountMin. -/
import Derived.Test.YtlbbmnjhohfbkaaCmEst
import Derived.Test.YtlbbmnjhohfbkaaRCmIns
namespace Go.Proofs.Ytlbbmnjhohfbkaa
open Go.RowKit
set_option linter.unusedVariables false
set_option linter.unusedSimpArgs false
/-- What a look at a cell needs: the struct, one element. -/
def EstC (h : Nat) (D S x : Int) (v : Value) (s : Bool) (b o : Nat) (z : Int) (w : World) : Prop :=
  w.cell? ⟨h, 0, none⟩ = some (.int .i64 D) ∧ w.cell? ⟨h, 1, none⟩ = some (.int .i64 S) ∧ w.cell? ⟨h, 2, none⟩ = some (.int .u64 x) ∧ w.cell? ⟨h, 3, none⟩ = some v ∧ w.cell? ⟨h, 4, none⟩ = some (.bool s) ∧ w.cell? ⟨b, o, none⟩ = some (.int .i64 z)
theorem EstC.below {h : Nat} {D S x : Int} {v : Value} {s : Bool} {b o : Nat} {z : Int} {w w' : World} (hc : EstC h D S x v s b o z w) (hb : Below w.heap.size w w') : EstC h D S x v s b o z w' := by
  obtain ⟨h0, h1, h2, h3, h4, h5⟩ := hc
  have l0 : h < w.heap.size := block_lt_of_cell h0
  have l5 : b < w.heap.size := block_lt_of_cell h5
  exact ⟨(hb.cell (p := ⟨h, 0, none⟩) l0).trans h0, (hb.cell (p := ⟨h, 1, none⟩) l0).trans h1, (hb.cell (p := ⟨h, 2, none⟩) l0).trans h2, (hb.cell (p := ⟨h, 3, none⟩) l0).trans h3, (hb.cell (p := ⟨h, 4, none⟩) l0).trans h4, (hb.cell (p := ⟨b, o, none⟩) l5).trans h5⟩
set_option maxRecDepth 100000 in
set_option maxHeartbeats 4000000 in
theorem rcest_any (c : CM) (v : Value) (k : ByteArray) (w : World) (hc : WfC c) (hv : RdC c v w) (hk : k.size ≤ maxLen) :
    Calls Try.prog 26 #[v, .string k] w fun e w' =>
      e = .returned (.tuple #[.int .i64 (cmEst c k), .int .i64 (cmEstE c k)]) ∧ Below w.heap.size w w' := by
  obtain ⟨D, S, x, L, s⟩ := c
  obtain ⟨⟨D0, D1⟩, ⟨S0, S1⟩, x0, x1⟩ := hc
  obtain ⟨a, n, cap, rfl, hR⟩ := hv
  dsimp only at D0 D1 S0 S1 x0 x1 hR ⊢
  have h1 := fun (w' : World) (hb : Below w.heap.size w w') => rcval_any D S x L a n cap s w' D0 D1 S0 S1 (hR.below hb)
  have h2 := fun w => risKey_any k w hk
  have C0 := Lib.hid (CSt.new D S x (.slice a n cap) s 26 w)
  have HB0 := Lib.hid (b1 (a := w) (.cells #[.int .i64 D, .int .i64 S, .int .u64 x, .slice a n cap, .bool s] 26))
  unfold cmEst cmEstE
  dsimp only
  by_cases hE : cmE D S L = 0
  · rw [hE, if_neg (show ¬ (0 : Int) ≠ 0 by simp)]
    have hok := cmE_ok hE
    rw [hE] at h1
    by_cases hF : keyB (byt k) = false
    · rw [if_pos hF, if_pos (by decide)]
      rw [hF] at h2
      clear hF hE hok
      go_enter Try.func26, Try.ntmps26
      go_wp2_with (first
        | (go_at_call 22; refine (h1 _ HB0.out).mono ?_; rintro e w2 ⟨rfl, hb2⟩; have B2 := Lib.hid (bgo HB0.out hb2); clear hb2)
        | (go_at_call 39; refine (h2 _).mono ?_; rintro e w' ⟨rfl, rfl⟩))
      go_ret2
      exact ⟨rfl, B2.out⟩
    · have hkey : keyB (byt k) = true := by simpa using hF
      rw [if_neg hF, if_neg (show ¬ (0 : Int) ≠ 0 by simp)]
      rw [hkey] at h2
      obtain ⟨⟨o1, o2, o3, o4⟩, o5, o6⟩ := hok
      obtain ⟨N, rfl⟩ : ∃ N : Nat, D = (N : Int) := ⟨D.toNat, by omega⟩
      rw [Int.toNat_natCast]
      have hNS : 1 * 1 ≤ (N : Int) * S := Int.mul_le_mul o1 o3 (by omega) (by omega)
      have hNS2 : (N : Int) * S ≤ 8 * 64 := Int.mul_le_mul o2 o4 (by omega) (by omega)
      have hlen : 1 ≤ L.length ∧ L.length ≤ 512 := by omega
      have HCI := Lib.hid (fun (r : Nat) (hr : r < N) => celI_lt (x := x) (D := N) (S := S) (k := k) (r := r) (n := L.length) o3 (by omega) o5)
      have HE1 : Hid (estUp x S k L 1 = L.getD (celI x S k 0) 0) := Lib.hid (by
        show min 4294967295 (L.getD (celI x S k 0) 0) = _
        have := getD_bd o6 (celI x S k 0)
        omega)
      have HEB := Lib.hid (fun r => estUp_bd (x := x) (S := S) (k := k) o6 r)
      have HGB := Lib.hid (fun r => getD_bd o6 r)
      have HES : Hid (∀ r, estUp x S k L (r + 1) = min (estUp x S k L r) (L.getD (celI x S k r) 0)) := Lib.hid (fun r => rfl)
      have HR := Lib.hid hR
      obtain ⟨a', cap', he⟩ := hR.shape
      simp only [Value.slice.injEq] at he
      obtain ⟨rfl, rfl, rfl⟩ := he
      -- one look at a cell, in whatever world of the walk
      have hlook : ∀ (wr : World) (r : Nat), r < N → CSt w.heap.size N S x (.slice a L.length cap) s wr → Below w.heap.size w wr → ∃ b off, a = some ⟨b, off, none⟩ ∧ EstC w.heap.size N S x (.slice a L.length cap) s b (off + celI x S k r) (L.getD (celI x S k r) 0) wr := by
        intro wr r hr hcs hb
        obtain ⟨_, a6, cap6, he6, _, _, hc6⟩ := HR.out.below hb
        simp only [Value.slice.injEq, true_and] at he6
        obtain ⟨rfl, rfl⟩ := he6
        obtain ⟨b6, off6, rfl, hb6, hcell6⟩ := hc6 (by omega)
        obtain ⟨⟨q0, q1, q2, q3, q4⟩, _⟩ := hcs
        exact ⟨b6, off6, rfl, q0, q1, q2, q3, q4, hcell6 _ (HCI.out r hr)⟩
      have HLK := Lib.hid hlook
      have HCE := Lib.hid (fun (r : Nat) (hr : r < N) (w : World) => rcell_any N S x (.slice a L.length cap) s r k w ⟨_, _, _, rfl⟩ (by omega) ⟨o3, o4⟩ x0 x1 hk hkey)
      clear hE hF hlook
      go_enter Try.func26, Try.ntmps26
      go_wp2_with (first
        | (go_at_call 22; refine (h1 _ HB0.out).mono ?_; rintro e w2 ⟨rfl, hb2⟩; have B2 := Lib.hid (bgo HB0.out hb2); have C2 := Lib.hid (C0.out.below hb2 (by simp)); clear hb2)
        | (go_at_call 39; refine (h2 _).mono ?_; rintro e w' ⟨rfl, rfl⟩))
      obtain ⟨b6, off6, rfl, hS⟩ := HLK.out w2 0 (by omega) C2.out B2.out
      have hce := HCE.out 0 (by omega) w2.drew
      have HS6 := Lib.hid hS
      obtain ⟨s0, s1, s2, s3, s4, s5⟩ := hS
      have hil : ((celI x S k 0 : Nat) : Int) < (L.length : Int) := by have := HCI.out 0 (by omega); omega
      have hi0 : (0 : Int) ≤ ((celI x S k 0 : Nat) : Int) := by omega
      clear h1 h2 C0 HB0 o5 hNS hNS2 o6 hR
      have HE1' := Lib.hid HE1.out
      generalize L.getD (celI x S k 0) 0 = z at *
      generalize celI x S k 0 = i at *
      go_region_held3 (fun w' => w'.cell? ⟨w.heap.size, 0, none⟩ = some (.int .i64 N) ∧ w'.cell? ⟨w.heap.size, 1, none⟩ = some (.int .i64 S) ∧ w'.cell? ⟨w.heap.size, 2, none⟩ = some (.int .u64 x) ∧ w'.cell? ⟨w.heap.size, 3, none⟩ = some (.slice (some ⟨b6, off6, none⟩) L.length cap) ∧ w'.cell? ⟨w.heap.size, 4, none⟩ = some (.bool s) ∧ w'.cell? ⟨b6, off6 + i, none⟩ = some (.int .i64 z)) (go_keep)
        (first | (go_at_call 50; refine hce.mono ?_; rintro e w6 ⟨rfl, hb6⟩; obtain ⟨t0, t1, t2, t3, t4, t5⟩ := EstC.below (w := w2.drew) HS6.out hb6; have HB6 := Lib.hid hb6; clear hb6))
      all_goals
        have HC6 := Lib.hid (CSt.below (w := w2.drew) C2.out HB6.out (block_lt_of_cell s0))
        have HW6 := Lib.hid (Below.trans (b := w2.drew) B2.out.drew (HB6.out.mono B2.out.size))
        clear s0 s1 s2 s3 s4 s5 t0 t1 t2 t3 t4 t5 hce HS6 HB6 C2 B2 hil hi0
        go_wp2
        go_loopw [7, 8] (fun l i wr => ∃ r : Nat, 1 ≤ r ∧ r ≤ N ∧ i = .int .i64 (r : Int) ∧ l = .int .i64 (estUp x S k L r) ∧ Hid (CSt w.heap.size N S x (.slice (some ⟨b6, off6, none⟩) L.length cap) s wr) ∧ Hid (Below w.heap.size w wr)) (fun _ i _ => N - (intOf i).toNat)
        case atStart => exact ⟨1, by omega, by omega, rfl, by rw [HE1'.out], HC6, HW6⟩
        case round =>
          clear HC6 HW6
          obtain ⟨r, hr1, hr, rfl, rfl, HC, HB⟩ := hrel
          by_cases hlt : r < N
          · obtain ⟨b7, off7, he7, hS⟩ := HLK.out wr r hlt HC.out HB.out
            simp only [Option.some.injEq, Addr.mk.injEq, and_true] at he7
            obtain ⟨rfl, rfl⟩ := he7
            have hce := HCE.out r hlt wr.drew
            have HS6 := Lib.hid hS
            obtain ⟨s0, s1, s2, s3, s4, s5⟩ := hS
            have hil : ((celI x S k r : Nat) : Int) < (L.length : Int) := by have := HCI.out r hlt; omega
            have hi0 : (0 : Int) ≤ ((celI x S k r : Nat) : Int) := by omega
            have hE1 := HEB.out r
            have hG1 := HGB.out (celI x S k r)
            have HES1 := Lib.hid (HES.out r)
            have hrN : (r : Int) < (N : Int) := by omega
            clear HE1 HE1'
            generalize L.getD (celI x S k r) 0 = z2 at *
            generalize celI x S k r = i2 at *
            generalize estUp x S k L r = m at *
            go_wp2
            go_region_held3 (fun w' => w'.cell? ⟨w.heap.size, 0, none⟩ = some (.int .i64 N) ∧ w'.cell? ⟨w.heap.size, 1, none⟩ = some (.int .i64 S) ∧ w'.cell? ⟨w.heap.size, 2, none⟩ = some (.int .u64 x) ∧ w'.cell? ⟨w.heap.size, 3, none⟩ = some (.slice (some ⟨b6, off6, none⟩) L.length cap) ∧ w'.cell? ⟨w.heap.size, 4, none⟩ = some (.bool s) ∧ w'.cell? ⟨b6, off6 + i2, none⟩ = some (.int .i64 z2)) (go_keep)
              (first | (go_at_call 50; refine hce.mono ?_; rintro e w6 ⟨rfl, hb6⟩; obtain ⟨t0, t1, t2, t3, t4, t5⟩ := EstC.below (w := wr.drew) HS6.out hb6; have HB6 := Lib.hid hb6; clear hb6))
            all_goals
              go_wp2
              go_roundw
              case rel => exact ⟨r + 1, by omega, by omega, by go_num, by rw [HES1.out], Lib.hid (CSt.below (w := wr.drew) HC.out HB6.out (block_lt_of_cell s0)), Lib.hid (Below.trans (b := wr.drew) HB.out.drew (HB6.out.mono HB.out.size))⟩
              case measure => simp [intOf]; omega
          · obtain rfl : r = N := by omega
            obtain ⟨⟨s0, s1, s2, s3, s4⟩, _⟩ := HC.out
            go_wp2
            go_ret2
            exact ⟨rfl, HB.out⟩
  · rw [if_pos hE, if_pos hE]
    have hE2 : (cmE D S L != 0) = true := by simpa using hE
    generalize cmE D S L = E at *
    clear hE
    go_enter Try.func26, Try.ntmps26
    go_wp2_with (go_at_call 22; refine (h1 _ HB0.out).mono ?_; rintro e w2 ⟨rfl, hb2⟩; have B2 := Lib.hid (bgo HB0.out hb2); clear hb2)
    go_ret2
    exact ⟨rfl, B2.out⟩
end Go.Proofs.Ytlbbmnjhohfbkaa
