/- The reference's Bind. -/
import Derived.Test.YtpehbfghajlgmaaGreatBgQ
import Derived.Test.YtpehbfghajlgmaaGreatBgV
namespace Go.Proofs.YtpehbfghajlgmaaGreat
open Go.RowKit
set_option linter.unusedVariables false
set_option linter.unusedSimpArgs false
/-- An open binding of the name or the object stands in the way. -/
def busyB (L : List Bg) (nm : ByteArray) (ob : Int) : Bool := L.any (fun x => x.s == 0 && (decide (x.n = nm) || x.r == ob))
open Classical in
/-- The error of Bind. -/
noncomputable def bndE (L : List Bg) (nm : ByteArray) (ob c : Int) : Int := if valB L ≠ 0 then valB L else if nameB (byt nm) = false then 6 else if ob < 1 ∨ c < 1 then 5 else if lateB L c = true then 19 else if busyB L nm ob = true then 9 else 0
section
variable (L : List Bg) (u : Value) (nm : ByteArray) (ob c : Int) (w : World)
set_option maxRecDepth 100000 in
set_option maxHeartbeats 2000000 in
theorem rbind_bad (hv : RdBg L u w) (hL : L.length ≤ 1000000) (z : Int) (hz : valB L = z) (h0 : z ≠ 0) :
    Calls Tryz.prog 12 #[u, .string nm, .int .i64 ob, .int .i64 c] w fun e w' => e = .returned (.tuple #[.slice none 0 0, .int .i64 z]) ∧ Below w.heap.size w w' := by
  have HVAL := Lib.hid (rvalb_any L u w hv (by omega))
  obtain ⟨a, cap, rfl⟩ := hv.shape
  rw [hz] at HVAL
  clear hv
  go_enter Tryz.func12, Tryz.ntmps12
  go_wp2_with (go_at_call 19; refine HVAL.out.mono ?_; rintro e w1 ⟨rfl, hb1⟩; have B1 := Lib.hid hb1; clear hb1)
  go_ret2
  exact ⟨rfl, B1.out⟩
set_option maxRecDepth 100000 in
set_option maxHeartbeats 2000000 in
theorem rbind_name (hv : RdBg L u w) (hL : L.length ≤ 1000000) (hz : valB L = 0) (hn : nm.size ≤ maxLen) (h1 : nameB (byt nm) = false) :
    Calls Tryz.prog 12 #[u, .string nm, .int .i64 ob, .int .i64 c] w fun e w' => e = .returned (.tuple #[.slice none 0 0, .int .i64 6]) ∧ Below w.heap.size w w' := by
  have HVAL := Lib.hid (rvalb_any L u w hv (by omega))
  obtain ⟨a, cap, rfl⟩ := hv.shape
  rw [hz] at HVAL
  have HNM := Lib.hid (fun w => risName_any nm w hn)
  rw [h1] at HNM
  clear hv
  go_enter Tryz.func12, Tryz.ntmps12
  go_wp2_with (first
    | (go_at_call 19; refine HVAL.out.mono ?_; rintro e w1 ⟨rfl, hb1⟩; have B1 := Lib.hid hb1; clear hb1)
    | (go_at_call 30; refine (HNM.out _).mono ?_; rintro e w' ⟨rfl, rfl⟩))
  go_ret2
  exact ⟨rfl, B1.out⟩
set_option maxRecDepth 100000 in
set_option maxHeartbeats 2000000 in
theorem rbind_rng (hv : RdBg L u w) (hL : L.length ≤ 1000000) (hz : valB L = 0) (hn : nm.size ≤ maxLen) (h1 : nameB (byt nm) = true) (h2 : ob < 1 ∨ c < 1) :
    Calls Tryz.prog 12 #[u, .string nm, .int .i64 ob, .int .i64 c] w fun e w' => e = .returned (.tuple #[.slice none 0 0, .int .i64 5]) ∧ Below w.heap.size w w' := by
  have HVAL := Lib.hid (rvalb_any L u w hv (by omega))
  obtain ⟨a, cap, rfl⟩ := hv.shape
  rw [hz] at HVAL
  have HNM := Lib.hid (fun w => risName_any nm w hn)
  rw [h1] at HNM
  clear hv
  by_cases g1 : ob < 1
  · clear h2
    go_enter Tryz.func12, Tryz.ntmps12
    go_wp2_with (first
      | (go_at_call 19; refine HVAL.out.mono ?_; rintro e w1 ⟨rfl, hb1⟩; have B1 := Lib.hid hb1; clear hb1)
      | (go_at_call 30; refine (HNM.out _).mono ?_; rintro e w' ⟨rfl, rfl⟩))
    go_ret2
    exact ⟨rfl, B1.out⟩
  · have g2 : c < 1 := by omega
    clear h2
    go_enter Tryz.func12, Tryz.ntmps12
    go_wp2_with (first
      | (go_at_call 19; refine HVAL.out.mono ?_; rintro e w1 ⟨rfl, hb1⟩; have B1 := Lib.hid hb1; clear hb1)
      | (go_at_call 30; refine (HNM.out _).mono ?_; rintro e w' ⟨rfl, rfl⟩))
    go_ret2
    exact ⟨rfl, B1.out⟩
set_option maxRecDepth 100000 in
set_option maxHeartbeats 2000000 in
theorem rbind_late (hv : RdBg L u w) (hL : L.length ≤ 1000000) (hz : valB L = 0) (hn : nm.size ≤ maxLen) (h1 : nameB (byt nm) = true) (g1 : ¬ ob < 1) (g2 : ¬ c < 1) (h3 : lateB L c = true) :
    Calls Tryz.prog 12 #[u, .string nm, .int .i64 ob, .int .i64 c] w fun e w' => e = .returned (.tuple #[.slice none 0 0, .int .i64 19]) ∧ Below w.heap.size w w' := by
  have HVAL := Lib.hid (rvalb_any L u w hv (by omega))
  obtain ⟨a, cap, rfl⟩ := hv.shape
  rw [hz] at HVAL
  have HNM := Lib.hid (fun w => risName_any nm w hn)
  have HLT := Lib.hid (fun (w' : World) (hb : Below w.heap.size w w') => rlate_any L _ c w' (hv.below hb) (by omega))
  rw [h1] at HNM
  rw [h3] at HLT
  clear hv
  go_enter Tryz.func12, Tryz.ntmps12
  go_wp2_with (first
    | (go_at_call 19; refine HVAL.out.mono ?_; rintro e w1 ⟨rfl, hb1⟩; have B1 := Lib.hid hb1; clear hb1)
    | (go_at_call 30; refine (HNM.out _).mono ?_; rintro e w' ⟨rfl, rfl⟩)
    | (go_at_call 31; refine (HLT.out _ B1.out).mono ?_; rintro e w2 ⟨rfl, hb2⟩; have B2 := Lib.hid (bgo B1.out hb2); clear hb2))
  go_ret2
  exact ⟨rfl, B2.out⟩
set_option maxRecDepth 100000 in
set_option maxHeartbeats 2000000 in
theorem rbind_dup (hv : RdBg L u w) (hL : L.length ≤ 1000000) (hz : valB L = 0) (hn : nm.size ≤ maxLen) (h1 : nameB (byt nm) = true) (g1 : ¬ ob < 1) (g2 : ¬ c < 1) (h3 : lateB L c = false) (h4 : busyB L nm ob = true) :
    Calls Tryz.prog 12 #[u, .string nm, .int .i64 ob, .int .i64 c] w fun e w' => e = .returned (.tuple #[.slice none 0 0, .int .i64 9]) ∧ Below w.heap.size w w' := by
  have HVAL := Lib.hid (rvalb_any L u w hv (by omega))
  obtain ⟨a, cap, rfl⟩ := hv.shape
  rw [hz] at HVAL
  have HNM := Lib.hid (fun w => risName_any nm w hn)
  have HLT := Lib.hid (fun (w' : World) (hb : Below w.heap.size w w') => rlate_any L _ c w' (hv.below hb) (by omega))
  rw [h1] at HNM
  rw [h3] at HLT
  have HV := Lib.hid hv
  have HBY := Lib.hid h4
  clear hv h4
  go_enter Tryz.func12, Tryz.ntmps12
  go_upto_region 11 with (first
    | (go_at_call 19; refine HVAL.out.mono ?_; rintro e w1 ⟨rfl, hb1⟩; have B1 := Lib.hid hb1; clear hb1)
    | (go_at_call 30; refine (HNM.out _).mono ?_; rintro e w' ⟨rfl, rfl⟩)
    | (go_at_call 31; refine (HLT.out _ B1.out).mono ?_; rintro e w2 ⟨rfl, hb2⟩; have B2 := Lib.hid (bgo B1.out hb2); clear hb2))
  go_loopw [11] (fun i wr => ∃ q : Nat, q ≤ L.length ∧ i = .int .i64 (q : Int) ∧ Hid (∀ x, x < q → (fun x : Bg => x.s == 0 && (decide (x.n = nm) || x.r == ob)) (L.getD x Bg.z) = false) ∧ Hid (Below w.heap.size w wr)) (fun i _ => L.length - (intOf i).toNat)
  case atStart => exact ⟨0, by omega, rfl, Lib.hid (fun x hx => by omega), B2⟩
  case round =>
    clear B1 B2
    obtain ⟨q, hq, rfl, HN, HB⟩ := hrel
    by_cases hlt : q < L.length
    · have hqi : (q : Int) < (L.length : Int) := by omega
      obtain ⟨b, off, rfl, hbl, c0, c1, c2, c3⟩ := (HV.out.below HB.out).at_ hlt
      have HIT := Lib.hid (fun (h : (fun x : Bg => x.s == 0 && (decide (x.n = nm) || x.r == ob)) (L.getD q Bg.z) = true) => show busyB L nm ob = true from any_hit (p := (fun x : Bg => x.s == 0 && (decide (x.n = nm) || x.r == ob))) hlt h)
      have HNX : Hid ((fun x : Bg => x.s == 0 && (decide (x.n = nm) || x.r == ob)) (L.getD q Bg.z) = false → ∀ x, x < q + 1 → (fun x : Bg => x.s == 0 && (decide (x.n = nm) || x.r == ob)) (L.getD x Bg.z) = false) := Lib.hid (fun h x hx => by
        rcases Nat.lt_or_ge x q with h' | h'
        · exact HN.out x h'
        · obtain rfl : x = q := by omega
          exact h)
      obtain ⟨y, hy⟩ : ∃ y, L.getD q Bg.z = y := ⟨_, rfl⟩
      rw [hy] at c0 c1 c2 c3 HIT HNX
      clear hy
      obtain ⟨m, o, f, t⟩ := y
      simp only at c0 c1 c2 c3
      by_cases ht : t = 0
      · subst ht
        by_cases hm : m = nm
        · have HF := Lib.hid (HIT.out (by simp [hm]))
          clear HIT HNX
          subst hm
          go_wp2
          go_ret2
          exact ⟨rfl, HB.out⟩
        · have hm2 : (m.toList == nm.toList) = false := beq_eq_false_iff_ne.2 (fun h => hm (toL_inj h))
          by_cases ho : o = ob
          · have HF := Lib.hid (HIT.out (by simp [ho]))
            clear HIT HNX
            subst ho
            go_wp2
            go_ret2
            exact ⟨rfl, HB.out⟩
          · have HF := Lib.hid (HNX.out (by simp [hm, ho]))
            have ho2 : (o == ob) = false := by simpa using ho
            clear HIT HNX
            go_wp2
            go_roundw
            case rel => exact ⟨q + 1, by omega, by go_num, HF, HB⟩
            case measure => simp [intOf]; omega
      · have HF := Lib.hid (HNX.out (by simp [ht]))
        have ht2 : (t == 0) = false := by simpa using ht
        clear HIT HNX
        go_wp2
        go_roundw
        case rel => exact ⟨q + 1, by omega, by go_num, HF, HB⟩
        case measure => simp [intOf]; omega
    · obtain rfl : q = L.length := by omega
      have HMS := Lib.hid (show busyB L nm ob = false from any_miss HN.out)
      have h5 := HMS.out
      rw [HBY.out] at h5
      cases h5
set_option maxRecDepth 100000 in
set_option maxHeartbeats 2000000 in
theorem rbind_ok (hv : RdBg L u w) (hL : L.length ≤ 1000000) (hz : valB L = 0) (hn : nm.size ≤ maxLen) (h1 : nameB (byt nm) = true) (g1 : ¬ ob < 1) (g2 : ¬ c < 1) (g3 : ob ≤ 9223372036854775807) (g4 : c ≤ 9223372036854775807) (h3 : lateB L c = false) (h4 : busyB L nm ob = false) :
    Calls Tryz.prog 12 #[u, .string nm, .int .i64 ob, .int .i64 c] w fun e w' => ∃ v q, e = .returned (.tuple #[v, .int .i64 0]) ∧ OwnBg w.heap.size (L.take q ++ (⟨nm, ob, c, 0⟩ : Bg) :: L.drop q) v w' ∧ PlcAt L (⟨nm, ob, c, 0⟩ : Bg) q ∧ Below w.heap.size w w' := by
  have HVAL := Lib.hid (rvalb_any L u w hv (by omega))
  obtain ⟨a, cap, rfl⟩ := hv.shape
  rw [hz] at HVAL
  have HNM := Lib.hid (fun w => risName_any nm w hn)
  have HLT := Lib.hid (fun (w' : World) (hb : Below w.heap.size w w') => rlate_any L _ c w' (hv.below hb) (by omega))
  have HPL := Lib.hid (fun (w' : World) (hb : Below w.heap.size w w') => rplace_any L _ nm ob c 0 w' (hv.below hb) hL ⟨hn, by show -9223372036854775808 ≤ ob ∧ ob ≤ 9223372036854775807; omega, by show -9223372036854775808 ≤ c ∧ c ≤ 9223372036854775807; omega, by show (-9223372036854775808 : Int) ≤ 0 ∧ (0 : Int) ≤ 9223372036854775807; decide⟩)
  rw [h1] at HNM
  rw [h3] at HLT
  have HV := Lib.hid hv
  have HBY := Lib.hid h4
  clear hv h4
  go_enter Tryz.func12, Tryz.ntmps12
  go_upto_region 11 with (first
    | (go_at_call 19; refine HVAL.out.mono ?_; rintro e w1 ⟨rfl, hb1⟩; have B1 := Lib.hid hb1; clear hb1)
    | (go_at_call 30; refine (HNM.out _).mono ?_; rintro e w' ⟨rfl, rfl⟩)
    | (go_at_call 31; refine (HLT.out _ B1.out).mono ?_; rintro e w2 ⟨rfl, hb2⟩; have B2 := Lib.hid (bgo B1.out hb2); clear hb2))
  go_loopw [11] (fun i wr => ∃ q : Nat, q ≤ L.length ∧ i = .int .i64 (q : Int) ∧ Hid (∀ x, x < q → (fun x : Bg => x.s == 0 && (decide (x.n = nm) || x.r == ob)) (L.getD x Bg.z) = false) ∧ Hid (Below w.heap.size w wr)) (fun i _ => L.length - (intOf i).toNat)
  case atStart => exact ⟨0, by omega, rfl, Lib.hid (fun x hx => by omega), B2⟩
  case round =>
    clear B1 B2
    obtain ⟨q, hq, rfl, HN, HB⟩ := hrel
    by_cases hlt : q < L.length
    · have hqi : (q : Int) < (L.length : Int) := by omega
      obtain ⟨b, off, rfl, hbl, c0, c1, c2, c3⟩ := (HV.out.below HB.out).at_ hlt
      have HIT := Lib.hid (fun (h : (fun x : Bg => x.s == 0 && (decide (x.n = nm) || x.r == ob)) (L.getD q Bg.z) = true) => show busyB L nm ob = true from any_hit (p := (fun x : Bg => x.s == 0 && (decide (x.n = nm) || x.r == ob))) hlt h)
      have HNX : Hid ((fun x : Bg => x.s == 0 && (decide (x.n = nm) || x.r == ob)) (L.getD q Bg.z) = false → ∀ x, x < q + 1 → (fun x : Bg => x.s == 0 && (decide (x.n = nm) || x.r == ob)) (L.getD x Bg.z) = false) := Lib.hid (fun h x hx => by
        rcases Nat.lt_or_ge x q with h' | h'
        · exact HN.out x h'
        · obtain rfl : x = q := by omega
          exact h)
      obtain ⟨y, hy⟩ : ∃ y, L.getD q Bg.z = y := ⟨_, rfl⟩
      rw [hy] at c0 c1 c2 c3 HIT HNX
      clear hy
      obtain ⟨m, o, f, t⟩ := y
      simp only at c0 c1 c2 c3
      by_cases ht : t = 0
      · subst ht
        by_cases hm : m = nm
        · have HF := Lib.hid (HIT.out (by simp [hm]))
          clear HIT HNX
          subst hm
          have h5 := HF.out
          rw [HBY.out] at h5
          cases h5
        · have hm2 : (m.toList == nm.toList) = false := beq_eq_false_iff_ne.2 (fun h => hm (toL_inj h))
          by_cases ho : o = ob
          · have HF := Lib.hid (HIT.out (by simp [ho]))
            clear HIT HNX
            subst ho
            have h5 := HF.out
            rw [HBY.out] at h5
            cases h5
          · have HF := Lib.hid (HNX.out (by simp [hm, ho]))
            have ho2 : (o == ob) = false := by simpa using ho
            clear HIT HNX
            go_wp2
            go_roundw
            case rel => exact ⟨q + 1, by omega, by go_num, HF, HB⟩
            case measure => simp [intOf]; omega
      · have HF := Lib.hid (HNX.out (by simp [ht]))
        have ht2 : (t == 0) = false := by simpa using ht
        clear HIT HNX
        go_wp2
        go_roundw
        case rel => exact ⟨q + 1, by omega, by go_num, HF, HB⟩
        case measure => simp [intOf]; omega
    · obtain rfl : q = L.length := by omega
      have HMS := Lib.hid (show busyB L nm ob = false from any_miss HN.out)
      go_wp2_with (go_at_call 32; refine (HPL.out _ HB.out).mono ?_; rintro e w3 ⟨v3, q3, rfl, ho3, hp3, hb3⟩; have HO := Lib.hid ho3; have HP := Lib.hid hp3; have B3 := Lib.hid (bgo HB.out hb3); clear ho3 hp3 hb3)
      go_ret2
      exact ⟨_, _, rfl, HO.out.mono HB.out.size, HP.out, B3.out⟩
end
end Go.Proofs.YtpehbfghajlgmaaGreat
