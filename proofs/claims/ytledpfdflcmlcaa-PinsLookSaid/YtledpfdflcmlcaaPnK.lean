/- The contract of sketchstorelaw16.made. -/
import Derived.Test.YtledpfdflcmlcaaPnB
import Derived.Test.YtledpfdflcmlcaaIntRow
namespace Go.Proofs.Ytledpfdflcmlcaa
open Go.RowKit
set_option linter.unusedVariables false
set_option linter.unusedSimpArgs false
theorem mask2k (n : Int) : bits .and .i64 n 3 = n % 4 := i64_mask 2 (by decide) n
theorem mask4k (n : Int) : bits .and .i64 n 15 = n % 16 := i64_mask 4 (by decide) n
theorem mask5k (n : Int) : bits .and .i64 n 31 = n % 32 := i64_mask 5 (by decide) n
theorem OwnPn.one2 {x : Pn} (hx : x.ok) (w : World) (o o' : Obj) : OwnPn w.heap.size [x] (.slice (some ⟨w.heap.size + 1 + 1, 0, none⟩) 1 1) (((w.alloc o).alloc o').alloc (.cells #[.int .i64 x.m, .int .i64 x.n] 38)) := by
  have h := OwnPn.one1 hx (w.alloc o) o'
  have e : (w.alloc o).heap.size = w.heap.size + 1 := by simp
  rw [e] at h
  exact h.mono (by omega)
/-- The loop's state. -/
def MkS (B q : Nat) (w wr : World) (o : Value) : Prop := ∃ M, M.length = q ∧ OwnPn B M o wr ∧ Below w.heap.size w wr
set_option maxRecDepth 100000 in
set_option maxHeartbeats 4000000 in
theorem made16_any (Z : List Int) (v : Value) (w : World) (hv : RdI Z v w) :
    Calls Try.prog 7 #[v] w fun e w' => ∃ M u, M.length ≤ 6 ∧ e = .returned u ∧ OwnPn w.heap.size M u w' ∧ Below w.heap.size w w' := by
  obtain ⟨a, cap, rfl⟩ := hv.shape
  have HV := Lib.hid hv
  have hZ : Z.length ≤ 9223372036854775807 := by
    obtain ⟨_, _, _, _, h1, h2, _⟩ := hv
    unfold maxLen at h2
    omega
  clear hv
  go_enter Try.func7, Try.ntmps7
  go_wp2
  go_loopw [3, 4, 5, 6] (fun o t i p wr => ∃ (q : Nat) (s : Int), q ≤ Z.length ∧ q ≤ 6 ∧ i = .int .i64 (q : Int) ∧ t = .int .i64 s ∧ 0 ≤ s ∧ s ≤ 4 * q ∧ Hid (MkS w.heap.size q w wr o)) (fun _ _ i _ _ => 6 - (intOf i).toNat)
  case atStart => exact ⟨0, 0, by omega, by omega, rfl, rfl, by decide, by decide, Lib.hid ⟨[], rfl, OwnPn.empty _ _, Below.refl _ _⟩⟩
  case round =>
    obtain ⟨q, s, hq, hq6, rfl, rfl, hs0, hs1, HI⟩ := hrel
    obtain ⟨M, hM, ho, hb⟩ := HI.out
    have HM := Lib.hid hM
    clear hM
    obtain ⟨a5, c5, rfl⟩ := ho.rd.shape
    have HO := Lib.hid ho
    have HB := Lib.hid hb
    clear HI ho hb
    by_cases hlt : q < Z.length
    · by_cases hlt6 : q < 6
      · obtain ⟨_, a6, cap6, he6, _, _, hc6⟩ := HV.out.below HB.out
        simp only [Value.slice.injEq, true_and] at he6
        obtain ⟨rfl, rfl⟩ := he6
        obtain ⟨b6, off6, rfl, hb6, hcell6⟩ := hc6 (by omega)
        have hcc6 := hcell6 q hlt
        have hz := HV.out.at_ q
        clear hcell6 hc6
        generalize Z.getD q 0 = z at *
        have m1 := mask2k z
        have m2 := mask2k (z / 4)
        have m3 := mask5k (z / 16)
        have m4 := mask4k (z / 512)
        have m5 := mask2k (z / 512)
        have r1 : 0 ≤ z % 4 ∧ z % 4 ≤ 3 := by omega
        have r2 : 0 ≤ z / 4 % 4 ∧ z / 4 % 4 ≤ 3 := by omega
        have r4 : 0 ≤ z / 512 % 16 ∧ z / 512 % 16 ≤ 15 := by omega
        have r5 : 0 ≤ z / 512 % 4 ∧ z / 512 % 4 ≤ 3 := by omega
        have hqz : (q : Int) < (Z.length : Int) := by omega
        generalize z / 4 % 4 = x2 at *
        generalize z % 4 = x1 at *
        generalize z / 512 % 16 = x4 at *
        generalize z / 512 % 4 = x5 at *
        have HLM := Lib.hid (show M.length ≤ 6 by have := HM.out; omega)
        obtain ⟨r, hr⟩ : ∃ r, z / 16 % 32 = r := ⟨_, rfl⟩
        rw [hr] at m3
        clear hr
        by_cases hr0 : r = 0
        · subst hr0
          have HX : Hid (Pn.ok ⟨x4 - 1, 1 + x2⟩) := Lib.hid ⟨by show -9223372036854775808 ≤ x4 - 1 ∧ x4 - 1 ≤ 9223372036854775807; omega, by show -9223372036854775808 ≤ 1 + x2 ∧ 1 + x2 ≤ 9223372036854775807; omega⟩
          go_wp2_with (at_builtin; refine wp_appPn rfl _ _ 23 rfl w.heap.size M [⟨x4 - 1, 1 + x2⟩] _ _ rfl rfl ((HO.out.alloc _).alloc _) (OwnPn.one1 HX.out wr _).rd.src ?_ ?_ ?_; (have := HB.out.size; simp; omega); (have := HLM.out; simp; omega); intro v3 w3 ho3 hb3; have O3 := Lib.hid ho3; have B3 := Lib.hid ((bal (bal HB.out _) _).trans hb3); clear ho3 hb3)
          go_roundw
          case rel => exact ⟨q + 1, s + x1 + 1, by omega, by omega, by go_num, rfl, by omega, by omega, Lib.hid ⟨_, by simp [HM.out], O3.out, B3.out⟩⟩
          case measure => simp [intOf]; omega
        · by_cases hr1 : r = 1
          · subst hr1
            have h4 : x5 = 0 ∨ x5 = 1 ∨ x5 = 2 ∨ x5 = 3 := by omega
            rcases h4 with rfl | rfl | rfl | rfl
            · have HX : Hid (Pn.ok ⟨s + x1, 0⟩) := Lib.hid ⟨by show -9223372036854775808 ≤ s + x1 ∧ s + x1 ≤ 9223372036854775807; omega, by show -9223372036854775808 ≤ (0 : Int) ∧ (0 : Int) ≤ 9223372036854775807; decide⟩
              go_wp2_with (at_builtin; refine wp_appPn rfl _ _ 23 rfl w.heap.size M [⟨s + x1, 0⟩] _ _ rfl rfl (((HO.out.alloc _).alloc _).alloc _) (OwnPn.one2 HX.out wr _ _).rd.src ?_ ?_ ?_; (have := HB.out.size; simp; omega); (have := HLM.out; simp; omega); intro v3 w3 ho3 hb3; have O3 := Lib.hid ho3; have B3 := Lib.hid ((bal (bal (bal HB.out _) _) _).trans hb3); clear ho3 hb3)
              go_roundw
              case rel => exact ⟨q + 1, s + x1 + 1, by omega, by omega, by go_num, rfl, by omega, by omega, Lib.hid ⟨_, by simp [HM.out], O3.out, B3.out⟩⟩
              case measure => simp [intOf]; omega
            · have HX : Hid (Pn.ok ⟨s + x1, -1⟩) := Lib.hid ⟨by show -9223372036854775808 ≤ s + x1 ∧ s + x1 ≤ 9223372036854775807; omega, by show -9223372036854775808 ≤ (-1 : Int) ∧ (-1 : Int) ≤ 9223372036854775807; decide⟩
              go_wp2_with (at_builtin; refine wp_appPn rfl _ _ 23 rfl w.heap.size M [⟨s + x1, -1⟩] _ _ rfl rfl (((HO.out.alloc _).alloc _).alloc _) (OwnPn.one2 HX.out wr _ _).rd.src ?_ ?_ ?_; (have := HB.out.size; simp; omega); (have := HLM.out; simp; omega); intro v3 w3 ho3 hb3; have O3 := Lib.hid ho3; have B3 := Lib.hid ((bal (bal (bal HB.out _) _) _).trans hb3); clear ho3 hb3)
              go_roundw
              case rel => exact ⟨q + 1, s + x1 + 1, by omega, by omega, by go_num, rfl, by omega, by omega, Lib.hid ⟨_, by simp [HM.out], O3.out, B3.out⟩⟩
              case measure => simp [intOf]; omega
            · have HX : Hid (Pn.ok ⟨s + x1, 1024⟩) := Lib.hid ⟨by show -9223372036854775808 ≤ s + x1 ∧ s + x1 ≤ 9223372036854775807; omega, by show -9223372036854775808 ≤ (1024 : Int) ∧ (1024 : Int) ≤ 9223372036854775807; decide⟩
              go_wp2_with (at_builtin; refine wp_appPn rfl _ _ 23 rfl w.heap.size M [⟨s + x1, 1024⟩] _ _ rfl rfl (((HO.out.alloc _).alloc _).alloc _) (OwnPn.one2 HX.out wr _ _).rd.src ?_ ?_ ?_; (have := HB.out.size; simp; omega); (have := HLM.out; simp; omega); intro v3 w3 ho3 hb3; have O3 := Lib.hid ho3; have B3 := Lib.hid ((bal (bal (bal HB.out _) _) _).trans hb3); clear ho3 hb3)
              go_roundw
              case rel => exact ⟨q + 1, s + x1 + 1, by omega, by omega, by go_num, rfl, by omega, by omega, Lib.hid ⟨_, by simp [HM.out], O3.out, B3.out⟩⟩
              case measure => simp [intOf]; omega
            · have HX : Hid (Pn.ok ⟨s + x1, 1025⟩) := Lib.hid ⟨by show -9223372036854775808 ≤ s + x1 ∧ s + x1 ≤ 9223372036854775807; omega, by show -9223372036854775808 ≤ (1025 : Int) ∧ (1025 : Int) ≤ 9223372036854775807; decide⟩
              go_wp2_with (at_builtin; refine wp_appPn rfl _ _ 23 rfl w.heap.size M [⟨s + x1, 1025⟩] _ _ rfl rfl (((HO.out.alloc _).alloc _).alloc _) (OwnPn.one2 HX.out wr _ _).rd.src ?_ ?_ ?_; (have := HB.out.size; simp; omega); (have := HLM.out; simp; omega); intro v3 w3 ho3 hb3; have O3 := Lib.hid ho3; have B3 := Lib.hid ((bal (bal (bal HB.out _) _) _).trans hb3); clear ho3 hb3)
              go_roundw
              case rel => exact ⟨q + 1, s + x1 + 1, by omega, by omega, by go_num, rfl, by omega, by omega, Lib.hid ⟨_, by simp [HM.out], O3.out, B3.out⟩⟩
              case measure => simp [intOf]; omega
          · have HX : Hid (Pn.ok ⟨s + x1, 1 + x2⟩) := Lib.hid ⟨by show -9223372036854775808 ≤ s + x1 ∧ s + x1 ≤ 9223372036854775807; omega, by show -9223372036854775808 ≤ 1 + x2 ∧ 1 + x2 ≤ 9223372036854775807; omega⟩
            go_wp2_with (at_builtin; refine wp_appPn rfl _ _ 23 rfl w.heap.size M [⟨s + x1, 1 + x2⟩] _ _ rfl rfl ((HO.out.alloc _).alloc _) (OwnPn.one1 HX.out wr _).rd.src ?_ ?_ ?_; (have := HB.out.size; simp; omega); (have := HLM.out; simp; omega); intro v3 w3 ho3 hb3; have O3 := Lib.hid ho3; have B3 := Lib.hid ((bal (bal HB.out _) _).trans hb3); clear ho3 hb3)
            go_roundw
            case rel => exact ⟨q + 1, s + x1 + 1, by omega, by omega, by go_num, rfl, by omega, by omega, Lib.hid ⟨_, by simp [HM.out], O3.out, B3.out⟩⟩
            case measure => simp [intOf]; omega
      · have hne : ¬ (q : Int) < 6 := by omega
        go_wp2
        go_ret
        exact ⟨M, by (have := HM.out; omega), .slice a5 M.length c5, rfl, HO.out, HB.out⟩
    · have hne : ¬ (q : Int) < (Z.length : Int) := by omega
      go_wp2
      go_ret
      exact ⟨M, by (have := HM.out; omega), .slice a5 M.length c5, rfl, HO.out, HB.out⟩
end Go.Proofs.Ytledpfdflcmlcaa
