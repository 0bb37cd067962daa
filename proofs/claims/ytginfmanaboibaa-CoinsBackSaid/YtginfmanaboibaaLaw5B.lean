/- The walk of the law CoinsBack. -/
import Derived.Test.YtginfmanaboibaaLaw5
namespace Go.Proofs.Ytginfmanaboibaa
open Go.RowKit
set_option linter.unusedVariables false
set_option linter.unusedSimpArgs false
theorem back_bit (Z : List Int) (i : Nat) : bitI (pk Z ((Z.length + 7) / 8) Z.length) (i : Int) = if i < Z.length ∧ Z.getD i 0 ≠ 0 then 1 else 0 := by
  have hl := pk_len Z ((Z.length + 7) / 8) Z.length
  have hb := pk_bit Z ((Z.length + 7) / 8) Z.length (Nat.le_refl _) i
  by_cases h : i / 8 < (pk Z ((Z.length + 7) / 8) Z.length).length
  · rw [bitI_on h, hb]
  · rw [bitI_off (.inr (by omega)), if_neg (by omega)]
set_option maxRecDepth 100000 in
set_option maxHeartbeats 1000000 in
theorem coinsBack_walk (a : Option Addr) (m cap : Nat) (z : List Int) (W : World) (w0 : InRow .i64 W a m cap z) :
    Calls Try.prog 5 #[.slice a m cap] W fun e w' => e = .returned (.bool true) ∧ Below W.heap.size W w' := by
  have hr := inRow_rdI w0
  have hlz : (z.take m).length = m := by have := w0.1; have := w0.2.2.1; simp; omega
  have hm : m ≤ 9223372036854775807 := by have := w0.1; have := w0.2.1; unfold maxLen at this; omega
  by_cases hg : 200 < m
  · clear hr w0
    go_enter Try.func5, Try.ntmps5
    go_wp2_with (go_at_call 7; refine (known_any _).mono ?_; rintro e w' ⟨rfl, hb⟩)
    go_ret
    exact ⟨rfl, hb⟩
  · have hm1 : m ≤ 200 := by omega
    have h1 := k_pack hr (by omega) rfl
    have HB := Lib.hid (back_bit (z.take m))
    have hPl := pk_len (z.take m) ((m + 7) / 8) m
    rw [hlz] at h1 HB
    clear hg
    have HR := Lib.hid hr
    have hd : ((m : Int) + 7) / 8 = (((m + 7) / 8 : Nat) : Int) := by omega
    clear hr w0
    obtain ⟨Z, HZ⟩ : ∃ Z, Hid (Z = z.take m) := ⟨_, rfl⟩
    rw [← HZ.out] at h1 HB hPl hlz HR
    generalize pk Z ((m + 7) / 8) m = P at *
    generalize (m + 7) / 8 = N at *
    have HPL := Lib.hid hPl
    have HLZ := Lib.hid hlz
    clear hPl hlz
    go_enter Try.func5, Try.ntmps5
    go_wp2_with (go_at_call 10; refine h1.mono ?_; rintro e x1 ⟨v1, rfl, o1, b1⟩; obtain ⟨a1, p1, rfl⟩ := o1.shape; have O1 := Lib.hid o1; have B1 := Lib.hid b1; clear o1 b1 h1)
    go_loopw [4, 5] (fun i _ wr => ∃ k : Nat, k ≤ m + 9 ∧ i = .int .i64 (k : Int) ∧ Hid (Below x1.heap.size x1 wr)) (fun i _ _ => m + 9 - (intOf i).toNat)
    case atStart => exact ⟨0, by omega, rfl, Below.refl _ _⟩
    case round =>
      obtain ⟨k, hk, rfl, HW⟩ := hrel
      by_cases hlt : k < m + 9
      · have hbit := HB.out k
        have hq := fun {r : Int} (h : bitI P (k : Int) = r) => k_bit (O1.out.below HW.out).rd (k : Int) (by omega) (by omega) h
        by_cases hkm : k < m
        · obtain ⟨b, off, rfl, hb, hc⟩ : ∃ b off, a = some ⟨b, off, none⟩ ∧ b < wr.heap.size ∧ wr.cell? ⟨b, off + k, none⟩ = some (.int .i64 (Z.getD k 0)) := by
            obtain ⟨_, a', cap', hv, _, _, h3⟩ := HR.out.below (B1.out.trans (HW.out.mono B1.out.size))
            simp only [Value.slice.injEq] at hv
            obtain ⟨rfl, _, rfl⟩ := hv
            obtain ⟨b, off, rfl, hb, hc⟩ := h3 (by have := HLZ.out; omega)
            exact ⟨b, off, rfl, hb, hc k (by have := HLZ.out; omega)⟩
          generalize Z.getD k 0 = t at *
          by_cases ht : t = 0
          · rw [if_neg (fun h => h.2 ht)] at hbit
            have hq := hq hbit
            subst ht
            clear hbit
            go_wp2_with (go_at_call 8; refine hq.mono ?_; rintro e x2 ⟨rfl, b2⟩)
            go_roundw
            case rel => exact ⟨k + 1, by omega, by go_num, Lib.hid (HW.out.trans (b2.mono HW.out.size))⟩
            case measure => simp [intOf]; omega
          · rw [if_pos ⟨hkm, ht⟩] at hbit
            have hq := hq hbit
            have ht' : (t != 0) = true := by simpa using ht
            clear hbit ht
            go_wp2_with (go_at_call 8; refine hq.mono ?_; rintro e x2 ⟨rfl, b2⟩)
            go_roundw
            case rel => exact ⟨k + 1, by omega, by go_num, Lib.hid (HW.out.trans (b2.mono HW.out.size))⟩
            case measure => simp [intOf]; omega
        · rw [if_neg (fun h => hkm h.1)] at hbit
          have hq := hq hbit
          clear hbit
          go_wp2_with (go_at_call 8; refine hq.mono ?_; rintro e x2 ⟨rfl, b2⟩)
          go_roundw
          case rel => exact ⟨k + 1, by omega, by go_num, Lib.hid (HW.out.trans (b2.mono HW.out.size))⟩
          case measure => simp [intOf]; omega
      · obtain rfl : k = m + 9 := by omega
        have hPN := HPL.out
        go_wp2_with (go_at_call 7; refine (known_any _).mono ?_; rintro e w' ⟨rfl, hb⟩)
        go_ret
        exact ⟨rfl, B1.out.trans ((HW.out.trans (hb.mono HW.out.size)).mono B1.out.size)⟩
end Go.Proofs.Ytginfmanaboibaa
