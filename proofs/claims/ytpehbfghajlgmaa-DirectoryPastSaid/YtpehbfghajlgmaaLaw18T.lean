/- Law18Q: in one text. -/
import Derived.Test.YtpehbfghajlgmaaLaw18S
namespace Go.Proofs.Ytpehbfghajlgmaa
open Go.RowKit
set_option linter.unusedVariables false
set_option linter.unusedSimpArgs false
set_option maxRecDepth 100000 in
set_option maxHeartbeats 8000000 in
theorem directoryPast_walk (a0 : Option Addr) (len0 cap0 : Nat) (z0 : List Int) (a1 : Int) (W : World) (w0 : InRow .i64 W a0 len0 cap0 z0) (w1 : (Lit.int .i64 a1).wf = true) :
    Calls Try.prog 5 #[.slice a0 len0 cap0, .int .i64 a1] W fun e w' => e = .returned (.bool true) ∧ Below W.heap.size W w' := by
  have hmade := made18_any KeptB keeps (z0.take len0) _ W (inRow_rdJ w0)
  clear w0 w1
  have m2 := bmask2 a1
  have m3 := bmask2 (a1 / 4)
  have m4 := bmask2 (a1 / 16)
  have r4 : 0 ≤ a1 % 4 ∧ a1 % 4 ≤ 3 := by omega
  generalize a1 % 4 = z at *
  generalize a1 / 4 % 4 = x3 at *
  generalize a1 / 16 % 4 = x4 at *
  have hz : z = 0 ∨ z = 1 ∨ z = 2 ∨ z = 3 := by omega
  clear r4
  go_enter Try.func5, Try.ntmps5
  go_upto_region 4 with (go_at_call 7; refine hmade.mono ?_; rintro e u1 ⟨M, u, cc, hl, rfl, hc, ho, hk, hb⟩; have HO1 := Lib.hid ho; have HK := Lib.hid hk; have B1 := Lib.hid hb; have HL := Lib.hid hl; have HCC := Lib.hid hc; clear ho hk hb hl hc hmade)
  obtain ⟨k, rfl⟩ : ∃ k : Nat, cc = (k : Int) := ⟨cc.toNat, by have := HCC.out; omega⟩
  have hk0 : (1 : Int) ≤ (k : Int) := by have := HCC.out; omega
  have hk3 : (k : Int) ≤ 11 := HCC.out.2
  obtain ⟨ua, uc, rfl⟩ := HO1.out.rd.shape
  have HVM : Hid (VldB M) := Lib.hid (by obtain ⟨o, h, -⟩ := HK.out; exact h)
  have HML : Hid (M.length ≤ 1000000) := Lib.hid (by have := HL.out; omega)
  have HRD := Lib.hid HO1.out.rd
  clear HK HCC HO1
  rcases hz with rfl | rfl | rfl | rfl
  · go_upto_region 12 with (first
      | (go_at_call 17; refine (bname_any _ _).mono ?_; rintro e u2 ⟨nm, rfl, hn, hb⟩; have HN := Lib.hid hn; have G2 := Lib.hid hb; clear hn hb)
      | (go_at_call 9; refine (pbind_any M _ nm 99 (k : Int) u2 (HRD.out.below G2.out) HML.out HN.out.ok (by decide) (by omega)).mono ?_; rintro e w3 ⟨vx, X, rfl, ho, hz, hn, hb⟩; have HOX := Lib.hid ho; have HZ := Lib.hid hz; have HNZ := Lib.hid hn; have G3 := Lib.hid (bgo G2.out hb); clear ho hz hn hb))
    obtain ⟨xa, xc, rfl⟩ := HOX.out.rd.shape
    have HRM := Lib.hid (HRD.out.below G3.out)
    have HRX := Lib.hid HOX.out.rd
    have HXL : Hid (X.length ≤ 1000000) := Lib.hid (by have := out_len (n := M.length + 1) PutB.len HZ.out HNZ.out; have := HL.out; omega)
    have HBW := Lib.hid (bgo B1.out G3.out)
    by_cases hze : bndE M nm 99 (k : Int) = 0
    · have HZE := Lib.hid hze
      have HPA := Lib.hid (past_put HVM.out HZE.out (HZ.out HZE.out))
      rw [hze]
      clear hze HZ HNZ HZE HOX HRD
      have HVX := Lib.hid (vld_ok HPA.out.2.1)
      go_wp2
      go_loopw [9, 10, 11, 12, 13, 14, 15, 16] (fun kk _ _ _ _ _ _ _ wr => ∃ q : Nat, q ≤ k ∧ kk = .int .i64 (q : Int) ∧ Hid (Below w3.heap.size w3 wr)) (fun kk _ _ _ _ _ _ _ _ => k - (intOf kk).toNat)
      case atStart => exact ⟨0, by omega, by go_num, Lib.hid (Below.refl _ _)⟩
      case round =>
        obtain ⟨q, hq, rfl, HB⟩ := hrel
        by_cases hqk : q < k
        · have hqk2 : (q : Int) < (k : Int) := by omega
          have HDE := Lib.hid (HPA.out.2.2 (q : Int) hqk2)
          have HLA := Lib.hid (fun (w' : World) (h : Below w3.heap.size w3 w') => plist_any M _ (q : Int) w' (HRM.out.below h) HML.out)
          have HLB := Lib.hid (fun (w' : World) (h : Below w3.heap.size w3 w') => plist_any X _ (q : Int) w' (HRX.out.below h) HXL.out)
          go_upto_region 18 with (first
            | (go_at_call 18; (with_reducible refine (HLA.out _ HB.out).mono ?_); rintro e u4 ⟨va, S, rfl, ho, hl, hb⟩; have HSA4 := Lib.hid ho.rd; have HLS := Lib.hid hl; have G4 := Lib.hid (bgo HB.out hb); clear ho hl hb)
            | (go_at_call 18; (with_reducible refine (HLB.out _ G4.out).mono ?_); rintro e u5 ⟨vb, T, rfl, ho, hl, hb⟩; have hST := den_list HDE.out HLS.out hl; subst hST; have HSB := Lib.hid ho.rd; have HSA := Lib.hid (HSA4.out.below hb); have G5 := Lib.hid (bgo G4.out hb); clear ho hl hb))
          obtain ⟨aa, ca, rfl⟩ := HSA.out.shape
          obtain ⟨ab, cb, rfl⟩ := HSB.out.shape
          clear HLA HLB HSA4 G4
          go_wp2
          go_loopw [12, 13, 14, 15, 16] (fun i _ _ _ _ wr2 => ∃ y : Nat, y ≤ S.length ∧ i = .int .i64 (y : Int) ∧ Hid (Below u5.heap.size u5 wr2)) (fun i _ _ _ _ _ => S.length - (intOf i).toNat)
          case atStart => exact ⟨0, by omega, by go_num, Lib.hid (Below.refl _ _)⟩
          case round =>
            obtain ⟨y, hy, rfl, HB2⟩ := hrel
            by_cases hylt : y < S.length
            · have hyi : (y : Int) < (S.length : Int) := by omega
              have HYL := Lib.hid hylt
              have hSL : S.length ≤ 9223372036854775807 := by obtain ⟨_, _, _, q1, q2, _⟩ := HSA.out; unfold maxLen at q2; omega
              obtain ⟨ba, oa, rfl, -, -⟩ := HSA.out.at_ hylt
              obtain ⟨bb, ob, rfl, -, -⟩ := HSB.out.at_ hylt
              have HCA : Hid (∀ w', Below u5.heap.size u5 w' → w'.cell? ⟨ba, oa + y, none⟩ = some (.string (S.getD y ByteArray.empty))) := Lib.hid (fun w' h => by
                obtain ⟨b', o', e1, -, e2⟩ := (HSA.out.below h).at_ hylt
                simp only [Option.some.injEq, Addr.mk.injEq, and_true] at e1
                obtain ⟨rfl, rfl⟩ := e1
                exact e2)
              have HCB : Hid (∀ w', Below u5.heap.size u5 w' → w'.cell? ⟨bb, ob + y, none⟩ = some (.string (S.getD y ByteArray.empty))) := Lib.hid (fun w' h => by
                obtain ⟨b', o', e1, -, e2⟩ := (HSB.out.below h).at_ hylt
                simp only [Option.some.injEq, Addr.mk.injEq, and_true] at e1
                obtain ⟨rfl, rfl⟩ := e1
                exact e2)
              obtain ⟨s1, s2, s3⟩ := den_look HVM.out HDE.out HLS.out (show S.getD y ByteArray.empty ∈ S by simp [List.getD, hylt])
              have HKA := Lib.hid (fun (w' : World) (h : Below u5.heap.size u5 w') => plook_any M _ (S.getD y ByteArray.empty) (q : Int) w' (HRM.out.below (bgo G5.out h)) (by have := HML.out; omega))
              have HKB := Lib.hid (fun (w' : World) (h : Below u5.heap.size u5 w') => plook_any X _ (S.getD y ByteArray.empty) (q : Int) w' (HRX.out.below (bgo G5.out h)) (by have := HXL.out; omega))
              rw [s1] at HKA
              rw [s2, ← s3] at HKB
              clear s1 s2 s3
              generalize S.getD y ByteArray.empty = nm at *
              generalize lokO M nm (q : Int) = ov at *
              have d0 := HCA.out _ HB2.out
              go_upto_region 25 with (first
                | (go_at_call 19; (with_reducible refine (HKA.out _ HB2.out).mono ?_); rintro e u6 ⟨rfl, hb⟩; have G6 := Lib.hid (bgo HB2.out hb); have d1 := HCA.out _ G6.out; clear hb)
                | (go_at_call 19; (with_reducible refine (HKB.out _ G6.out).mono ?_); rintro e u7 ⟨rfl, hb⟩; have G7 := Lib.hid (bgo G6.out hb); have d2 := HCA.out _ G7.out; have d3 := HCB.out _ G7.out; clear hb))
              clear d0 d1
              go_quiet (fail)
              go_wp2
              go_roundw
              case rel => exact ⟨y + 1, HYL.out, by go_num, Lib.hid (below_drewN G7.out _)⟩
              case measure => have := HYL.out; simp [intOf]; omega
            · obtain rfl : y = S.length := by omega
              go_wp2
              go_roundw
              case rel => exact ⟨q + 1, by omega, by go_num, Lib.hid (bgo G5.out HB2.out)⟩
              case measure => simp [intOf]; omega
        · obtain rfl : q = k := by omega
          have HVA := Lib.hid (fun (w' : World) (h : Below w3.heap.size w3 w') => pvalb_any X _ w' (HRX.out.below h) HXL.out)
          rw [HVX.out] at HVA
          go_wp2_with (first
            | (go_at_call 20; refine (HVA.out _ HB.out).mono ?_; rintro e u8 ⟨rfl, hb⟩; have G8 := Lib.hid (bgo HB.out hb); clear hb)
            | (go_at_call 12; refine (known18_any _).mono ?_; rintro e u9 ⟨rfl, hb⟩; have G9 := Lib.hid (bgo G8.out hb); clear hb))
          go_ret
          exact ⟨rfl, bgo HBW.out G9.out⟩
    · obtain rfl := HNZ.out hze
      generalize bndE M nm 99 (k : Int) = ez at *
      have hze2 : (ez == 0) = false := beq_eq_false_iff_ne.2 hze
      simp only [List.length_nil]
      go_wp2_with (go_at_call 12; refine (known18_any _).mono ?_; rintro e u9 ⟨rfl, hb⟩; have G9 := Lib.hid hb; clear hb)
      go_ret
      exact ⟨rfl, bgo HBW.out G9.out⟩
  · go_upto_region 12 with (first
      | (go_at_call 17; refine (bname_any _ _).mono ?_; rintro e u2 ⟨nm, rfl, hn, hb⟩; have HN := Lib.hid hn; have G2 := Lib.hid hb; clear hn hb)
      | (go_at_call 9; refine (pbind_any M _ nm 99 (k : Int) u2 (HRD.out.below G2.out) HML.out HN.out.ok (by decide) (by omega)).mono ?_; rintro e w3 ⟨vx, X, rfl, ho, hz, hn, hb⟩; have HOX := Lib.hid ho; have HZ := Lib.hid hz; have HNZ := Lib.hid hn; have G3 := Lib.hid (bgo G2.out hb); clear ho hz hn hb))
    obtain ⟨xa, xc, rfl⟩ := HOX.out.rd.shape
    have HRM := Lib.hid (HRD.out.below G3.out)
    have HRX := Lib.hid HOX.out.rd
    have HXL : Hid (X.length ≤ 1000000) := Lib.hid (by have := out_len (n := M.length + 1) PutB.len HZ.out HNZ.out; have := HL.out; omega)
    have HBW := Lib.hid (bgo B1.out G3.out)
    by_cases hze : bndE M nm 99 (k : Int) = 0
    · have HZE := Lib.hid hze
      have HPA := Lib.hid (past_put HVM.out HZE.out (HZ.out HZE.out))
      rw [hze]
      clear hze HZ HNZ HZE HOX HRD
      have HVX := Lib.hid (vld_ok HPA.out.2.1)
      go_wp2
      go_loopw [9, 10, 11, 12, 13, 14, 15, 16] (fun kk _ _ _ _ _ _ _ wr => ∃ q : Nat, q ≤ k ∧ kk = .int .i64 (q : Int) ∧ Hid (Below w3.heap.size w3 wr)) (fun kk _ _ _ _ _ _ _ _ => k - (intOf kk).toNat)
      case atStart => exact ⟨0, by omega, by go_num, Lib.hid (Below.refl _ _)⟩
      case round =>
        obtain ⟨q, hq, rfl, HB⟩ := hrel
        by_cases hqk : q < k
        · have hqk2 : (q : Int) < (k : Int) := by omega
          have HDE := Lib.hid (HPA.out.2.2 (q : Int) hqk2)
          have HLA := Lib.hid (fun (w' : World) (h : Below w3.heap.size w3 w') => plist_any M _ (q : Int) w' (HRM.out.below h) HML.out)
          have HLB := Lib.hid (fun (w' : World) (h : Below w3.heap.size w3 w') => plist_any X _ (q : Int) w' (HRX.out.below h) HXL.out)
          go_upto_region 18 with (first
            | (go_at_call 18; (with_reducible refine (HLA.out _ HB.out).mono ?_); rintro e u4 ⟨va, S, rfl, ho, hl, hb⟩; have HSA4 := Lib.hid ho.rd; have HLS := Lib.hid hl; have G4 := Lib.hid (bgo HB.out hb); clear ho hl hb)
            | (go_at_call 18; (with_reducible refine (HLB.out _ G4.out).mono ?_); rintro e u5 ⟨vb, T, rfl, ho, hl, hb⟩; have hST := den_list HDE.out HLS.out hl; subst hST; have HSB := Lib.hid ho.rd; have HSA := Lib.hid (HSA4.out.below hb); have G5 := Lib.hid (bgo G4.out hb); clear ho hl hb))
          obtain ⟨aa, ca, rfl⟩ := HSA.out.shape
          obtain ⟨ab, cb, rfl⟩ := HSB.out.shape
          clear HLA HLB HSA4 G4
          go_wp2
          go_loopw [12, 13, 14, 15, 16] (fun i _ _ _ _ wr2 => ∃ y : Nat, y ≤ S.length ∧ i = .int .i64 (y : Int) ∧ Hid (Below u5.heap.size u5 wr2)) (fun i _ _ _ _ _ => S.length - (intOf i).toNat)
          case atStart => exact ⟨0, by omega, by go_num, Lib.hid (Below.refl _ _)⟩
          case round =>
            obtain ⟨y, hy, rfl, HB2⟩ := hrel
            by_cases hylt : y < S.length
            · have hyi : (y : Int) < (S.length : Int) := by omega
              have HYL := Lib.hid hylt
              have hSL : S.length ≤ 9223372036854775807 := by obtain ⟨_, _, _, q1, q2, _⟩ := HSA.out; unfold maxLen at q2; omega
              obtain ⟨ba, oa, rfl, -, -⟩ := HSA.out.at_ hylt
              obtain ⟨bb, ob, rfl, -, -⟩ := HSB.out.at_ hylt
              have HCA : Hid (∀ w', Below u5.heap.size u5 w' → w'.cell? ⟨ba, oa + y, none⟩ = some (.string (S.getD y ByteArray.empty))) := Lib.hid (fun w' h => by
                obtain ⟨b', o', e1, -, e2⟩ := (HSA.out.below h).at_ hylt
                simp only [Option.some.injEq, Addr.mk.injEq, and_true] at e1
                obtain ⟨rfl, rfl⟩ := e1
                exact e2)
              have HCB : Hid (∀ w', Below u5.heap.size u5 w' → w'.cell? ⟨bb, ob + y, none⟩ = some (.string (S.getD y ByteArray.empty))) := Lib.hid (fun w' h => by
                obtain ⟨b', o', e1, -, e2⟩ := (HSB.out.below h).at_ hylt
                simp only [Option.some.injEq, Addr.mk.injEq, and_true] at e1
                obtain ⟨rfl, rfl⟩ := e1
                exact e2)
              obtain ⟨s1, s2, s3⟩ := den_look HVM.out HDE.out HLS.out (show S.getD y ByteArray.empty ∈ S by simp [List.getD, hylt])
              have HKA := Lib.hid (fun (w' : World) (h : Below u5.heap.size u5 w') => plook_any M _ (S.getD y ByteArray.empty) (q : Int) w' (HRM.out.below (bgo G5.out h)) (by have := HML.out; omega))
              have HKB := Lib.hid (fun (w' : World) (h : Below u5.heap.size u5 w') => plook_any X _ (S.getD y ByteArray.empty) (q : Int) w' (HRX.out.below (bgo G5.out h)) (by have := HXL.out; omega))
              rw [s1] at HKA
              rw [s2, ← s3] at HKB
              clear s1 s2 s3
              generalize S.getD y ByteArray.empty = nm at *
              generalize lokO M nm (q : Int) = ov at *
              have d0 := HCA.out _ HB2.out
              go_upto_region 25 with (first
                | (go_at_call 19; (with_reducible refine (HKA.out _ HB2.out).mono ?_); rintro e u6 ⟨rfl, hb⟩; have G6 := Lib.hid (bgo HB2.out hb); have d1 := HCA.out _ G6.out; clear hb)
                | (go_at_call 19; (with_reducible refine (HKB.out _ G6.out).mono ?_); rintro e u7 ⟨rfl, hb⟩; have G7 := Lib.hid (bgo G6.out hb); have d2 := HCA.out _ G7.out; have d3 := HCB.out _ G7.out; clear hb))
              clear d0 d1
              go_quiet (fail)
              go_wp2
              go_roundw
              case rel => exact ⟨y + 1, HYL.out, by go_num, Lib.hid (below_drewN G7.out _)⟩
              case measure => have := HYL.out; simp [intOf]; omega
            · obtain rfl : y = S.length := by omega
              go_wp2
              go_roundw
              case rel => exact ⟨q + 1, by omega, by go_num, Lib.hid (bgo G5.out HB2.out)⟩
              case measure => simp [intOf]; omega
        · obtain rfl : q = k := by omega
          have HVA := Lib.hid (fun (w' : World) (h : Below w3.heap.size w3 w') => pvalb_any X _ w' (HRX.out.below h) HXL.out)
          rw [HVX.out] at HVA
          go_wp2_with (first
            | (go_at_call 20; refine (HVA.out _ HB.out).mono ?_; rintro e u8 ⟨rfl, hb⟩; have G8 := Lib.hid (bgo HB.out hb); clear hb)
            | (go_at_call 12; refine (known18_any _).mono ?_; rintro e u9 ⟨rfl, hb⟩; have G9 := Lib.hid (bgo G8.out hb); clear hb))
          go_ret
          exact ⟨rfl, bgo HBW.out G9.out⟩
    · obtain rfl := HNZ.out hze
      generalize bndE M nm 99 (k : Int) = ez at *
      have hze2 : (ez == 0) = false := beq_eq_false_iff_ne.2 hze
      simp only [List.length_nil]
      go_wp2_with (go_at_call 12; refine (known18_any _).mono ?_; rintro e u9 ⟨rfl, hb⟩; have G9 := Lib.hid hb; clear hb)
      go_ret
      exact ⟨rfl, bgo HBW.out G9.out⟩
  · go_upto_region 12 with (first
      | (go_at_call 17; refine (bname_any _ _).mono ?_; rintro e u2 ⟨nm, rfl, hn, hb⟩; have HN := Lib.hid hn; have G2 := Lib.hid hb; clear hn hb)
      | (go_at_call 13; refine (punb_any M _ nm (k : Int) u2 (HRD.out.below G2.out) HML.out HN.out.ok (by omega)).mono ?_; rintro e w3 ⟨vx, X, rfl, ho, hz, hn, hb⟩; have HOX := Lib.hid ho; have HZ := Lib.hid hz; have HNZ := Lib.hid hn; have G3 := Lib.hid (bgo G2.out hb); clear ho hz hn hb))
    obtain ⟨xa, xc, rfl⟩ := HOX.out.rd.shape
    have HRM := Lib.hid (HRD.out.below G3.out)
    have HRX := Lib.hid HOX.out.rd
    have HXL : Hid (X.length ≤ 1000000) := Lib.hid (by have := out_len (n := M.length + 1) EndB.len HZ.out HNZ.out; have := HL.out; omega)
    have HBW := Lib.hid (bgo B1.out G3.out)
    by_cases hze : unbE M nm (k : Int) = 0
    · have HZE := Lib.hid hze
      have HPA := Lib.hid (past_end HVM.out HZE.out (HZ.out HZE.out))
      rw [hze]
      clear hze HZ HNZ HZE HOX HRD
      have HVX := Lib.hid (vld_ok HPA.out.2.1)
      go_wp2
      go_loopw [9, 10, 11, 12, 13, 14, 15, 16] (fun kk _ _ _ _ _ _ _ wr => ∃ q : Nat, q ≤ k ∧ kk = .int .i64 (q : Int) ∧ Hid (Below w3.heap.size w3 wr)) (fun kk _ _ _ _ _ _ _ _ => k - (intOf kk).toNat)
      case atStart => exact ⟨0, by omega, by go_num, Lib.hid (Below.refl _ _)⟩
      case round =>
        obtain ⟨q, hq, rfl, HB⟩ := hrel
        by_cases hqk : q < k
        · have hqk2 : (q : Int) < (k : Int) := by omega
          have HDE := Lib.hid (HPA.out.2.2 (q : Int) hqk2)
          have HLA := Lib.hid (fun (w' : World) (h : Below w3.heap.size w3 w') => plist_any M _ (q : Int) w' (HRM.out.below h) HML.out)
          have HLB := Lib.hid (fun (w' : World) (h : Below w3.heap.size w3 w') => plist_any X _ (q : Int) w' (HRX.out.below h) HXL.out)
          go_upto_region 18 with (first
            | (go_at_call 18; (with_reducible refine (HLA.out _ HB.out).mono ?_); rintro e u4 ⟨va, S, rfl, ho, hl, hb⟩; have HSA4 := Lib.hid ho.rd; have HLS := Lib.hid hl; have G4 := Lib.hid (bgo HB.out hb); clear ho hl hb)
            | (go_at_call 18; (with_reducible refine (HLB.out _ G4.out).mono ?_); rintro e u5 ⟨vb, T, rfl, ho, hl, hb⟩; have hST := den_list HDE.out HLS.out hl; subst hST; have HSB := Lib.hid ho.rd; have HSA := Lib.hid (HSA4.out.below hb); have G5 := Lib.hid (bgo G4.out hb); clear ho hl hb))
          obtain ⟨aa, ca, rfl⟩ := HSA.out.shape
          obtain ⟨ab, cb, rfl⟩ := HSB.out.shape
          clear HLA HLB HSA4 G4
          go_wp2
          go_loopw [12, 13, 14, 15, 16] (fun i _ _ _ _ wr2 => ∃ y : Nat, y ≤ S.length ∧ i = .int .i64 (y : Int) ∧ Hid (Below u5.heap.size u5 wr2)) (fun i _ _ _ _ _ => S.length - (intOf i).toNat)
          case atStart => exact ⟨0, by omega, by go_num, Lib.hid (Below.refl _ _)⟩
          case round =>
            obtain ⟨y, hy, rfl, HB2⟩ := hrel
            by_cases hylt : y < S.length
            · have hyi : (y : Int) < (S.length : Int) := by omega
              have HYL := Lib.hid hylt
              have hSL : S.length ≤ 9223372036854775807 := by obtain ⟨_, _, _, q1, q2, _⟩ := HSA.out; unfold maxLen at q2; omega
              obtain ⟨ba, oa, rfl, -, -⟩ := HSA.out.at_ hylt
              obtain ⟨bb, ob, rfl, -, -⟩ := HSB.out.at_ hylt
              have HCA : Hid (∀ w', Below u5.heap.size u5 w' → w'.cell? ⟨ba, oa + y, none⟩ = some (.string (S.getD y ByteArray.empty))) := Lib.hid (fun w' h => by
                obtain ⟨b', o', e1, -, e2⟩ := (HSA.out.below h).at_ hylt
                simp only [Option.some.injEq, Addr.mk.injEq, and_true] at e1
                obtain ⟨rfl, rfl⟩ := e1
                exact e2)
              have HCB : Hid (∀ w', Below u5.heap.size u5 w' → w'.cell? ⟨bb, ob + y, none⟩ = some (.string (S.getD y ByteArray.empty))) := Lib.hid (fun w' h => by
                obtain ⟨b', o', e1, -, e2⟩ := (HSB.out.below h).at_ hylt
                simp only [Option.some.injEq, Addr.mk.injEq, and_true] at e1
                obtain ⟨rfl, rfl⟩ := e1
                exact e2)
              obtain ⟨s1, s2, s3⟩ := den_look HVM.out HDE.out HLS.out (show S.getD y ByteArray.empty ∈ S by simp [List.getD, hylt])
              have HKA := Lib.hid (fun (w' : World) (h : Below u5.heap.size u5 w') => plook_any M _ (S.getD y ByteArray.empty) (q : Int) w' (HRM.out.below (bgo G5.out h)) (by have := HML.out; omega))
              have HKB := Lib.hid (fun (w' : World) (h : Below u5.heap.size u5 w') => plook_any X _ (S.getD y ByteArray.empty) (q : Int) w' (HRX.out.below (bgo G5.out h)) (by have := HXL.out; omega))
              rw [s1] at HKA
              rw [s2, ← s3] at HKB
              clear s1 s2 s3
              generalize S.getD y ByteArray.empty = nm at *
              generalize lokO M nm (q : Int) = ov at *
              have d0 := HCA.out _ HB2.out
              go_upto_region 25 with (first
                | (go_at_call 19; (with_reducible refine (HKA.out _ HB2.out).mono ?_); rintro e u6 ⟨rfl, hb⟩; have G6 := Lib.hid (bgo HB2.out hb); have d1 := HCA.out _ G6.out; clear hb)
                | (go_at_call 19; (with_reducible refine (HKB.out _ G6.out).mono ?_); rintro e u7 ⟨rfl, hb⟩; have G7 := Lib.hid (bgo G6.out hb); have d2 := HCA.out _ G7.out; have d3 := HCB.out _ G7.out; clear hb))
              clear d0 d1
              go_quiet (fail)
              go_wp2
              go_roundw
              case rel => exact ⟨y + 1, HYL.out, by go_num, Lib.hid (below_drewN G7.out _)⟩
              case measure => have := HYL.out; simp [intOf]; omega
            · obtain rfl : y = S.length := by omega
              go_wp2
              go_roundw
              case rel => exact ⟨q + 1, by omega, by go_num, Lib.hid (bgo G5.out HB2.out)⟩
              case measure => simp [intOf]; omega
        · obtain rfl : q = k := by omega
          have HVA := Lib.hid (fun (w' : World) (h : Below w3.heap.size w3 w') => pvalb_any X _ w' (HRX.out.below h) HXL.out)
          rw [HVX.out] at HVA
          go_wp2_with (first
            | (go_at_call 20; refine (HVA.out _ HB.out).mono ?_; rintro e u8 ⟨rfl, hb⟩; have G8 := Lib.hid (bgo HB.out hb); clear hb)
            | (go_at_call 12; refine (known18_any _).mono ?_; rintro e u9 ⟨rfl, hb⟩; have G9 := Lib.hid (bgo G8.out hb); clear hb))
          go_ret
          exact ⟨rfl, bgo HBW.out G9.out⟩
    · obtain rfl := HNZ.out hze
      generalize unbE M nm (k : Int) = ez at *
      have hze2 : (ez == 0) = false := beq_eq_false_iff_ne.2 hze
      simp only [List.length_nil]
      go_wp2_with (go_at_call 12; refine (known18_any _).mono ?_; rintro e u9 ⟨rfl, hb⟩; have G9 := Lib.hid hb; clear hb)
      go_ret
      exact ⟨rfl, bgo HBW.out G9.out⟩
  · go_upto_region 12 with (first
      | (go_at_call 17; (with_reducible refine (bname_any x3 u1).mono ?_); rintro e u2 ⟨nm, rfl, hn, hb⟩; have HN := Lib.hid hn; have G2 := Lib.hid hb; clear hn hb)
      | (go_at_call 17; (with_reducible refine (bname_any x4 u2).mono ?_); rintro e u3 ⟨tn, rfl, hn, hb⟩; have HT := Lib.hid hn; have G2b := Lib.hid (bgo G2.out hb); clear hn hb)
      | (go_at_call 15; refine (pren_any M _ nm tn (k : Int) u3 (HRD.out.below G2b.out) HML.out HN.out.ok HT.out.ok (by omega)).mono ?_; rintro e w3 ⟨vx, X, rfl, ho, hz, hn, hb⟩; have HOX := Lib.hid ho; have HZ := Lib.hid hz; have HNZ := Lib.hid hn; have G3 := Lib.hid (bgo G2b.out hb); clear ho hz hn hb))
    obtain ⟨xa, xc, rfl⟩ := HOX.out.rd.shape
    have HRM := Lib.hid (HRD.out.below G3.out)
    have HRX := Lib.hid HOX.out.rd
    have HXL : Hid (X.length ≤ 1000000) := Lib.hid (by have := out_len (n := M.length + 1) MovB.len HZ.out HNZ.out; have := HL.out; omega)
    have HBW := Lib.hid (bgo B1.out G3.out)
    by_cases hze : renE M nm tn (k : Int) = 0
    · have HZE := Lib.hid hze
      have HPA := Lib.hid (past_mov HVM.out HZE.out (HZ.out HZE.out))
      rw [hze]
      clear hze HZ HNZ HZE HOX HRD
      have HVX := Lib.hid (vld_ok HPA.out.2.1)
      go_wp2
      go_loopw [9, 10, 11, 12, 13, 14, 15, 16] (fun kk _ _ _ _ _ _ _ wr => ∃ q : Nat, q ≤ k ∧ kk = .int .i64 (q : Int) ∧ Hid (Below w3.heap.size w3 wr)) (fun kk _ _ _ _ _ _ _ _ => k - (intOf kk).toNat)
      case atStart => exact ⟨0, by omega, by go_num, Lib.hid (Below.refl _ _)⟩
      case round =>
        obtain ⟨q, hq, rfl, HB⟩ := hrel
        by_cases hqk : q < k
        · have hqk2 : (q : Int) < (k : Int) := by omega
          have HDE := Lib.hid (HPA.out.2.2 (q : Int) hqk2)
          have HLA := Lib.hid (fun (w' : World) (h : Below w3.heap.size w3 w') => plist_any M _ (q : Int) w' (HRM.out.below h) HML.out)
          have HLB := Lib.hid (fun (w' : World) (h : Below w3.heap.size w3 w') => plist_any X _ (q : Int) w' (HRX.out.below h) HXL.out)
          go_upto_region 18 with (first
            | (go_at_call 18; (with_reducible refine (HLA.out _ HB.out).mono ?_); rintro e u4 ⟨va, S, rfl, ho, hl, hb⟩; have HSA4 := Lib.hid ho.rd; have HLS := Lib.hid hl; have G4 := Lib.hid (bgo HB.out hb); clear ho hl hb)
            | (go_at_call 18; (with_reducible refine (HLB.out _ G4.out).mono ?_); rintro e u5 ⟨vb, T, rfl, ho, hl, hb⟩; have hST := den_list HDE.out HLS.out hl; subst hST; have HSB := Lib.hid ho.rd; have HSA := Lib.hid (HSA4.out.below hb); have G5 := Lib.hid (bgo G4.out hb); clear ho hl hb))
          obtain ⟨aa, ca, rfl⟩ := HSA.out.shape
          obtain ⟨ab, cb, rfl⟩ := HSB.out.shape
          clear HLA HLB HSA4 G4
          go_wp2
          go_loopw [12, 13, 14, 15, 16] (fun i _ _ _ _ wr2 => ∃ y : Nat, y ≤ S.length ∧ i = .int .i64 (y : Int) ∧ Hid (Below u5.heap.size u5 wr2)) (fun i _ _ _ _ _ => S.length - (intOf i).toNat)
          case atStart => exact ⟨0, by omega, by go_num, Lib.hid (Below.refl _ _)⟩
          case round =>
            obtain ⟨y, hy, rfl, HB2⟩ := hrel
            by_cases hylt : y < S.length
            · have hyi : (y : Int) < (S.length : Int) := by omega
              have HYL := Lib.hid hylt
              have hSL : S.length ≤ 9223372036854775807 := by obtain ⟨_, _, _, q1, q2, _⟩ := HSA.out; unfold maxLen at q2; omega
              obtain ⟨ba, oa, rfl, -, -⟩ := HSA.out.at_ hylt
              obtain ⟨bb, ob, rfl, -, -⟩ := HSB.out.at_ hylt
              have HCA : Hid (∀ w', Below u5.heap.size u5 w' → w'.cell? ⟨ba, oa + y, none⟩ = some (.string (S.getD y ByteArray.empty))) := Lib.hid (fun w' h => by
                obtain ⟨b', o', e1, -, e2⟩ := (HSA.out.below h).at_ hylt
                simp only [Option.some.injEq, Addr.mk.injEq, and_true] at e1
                obtain ⟨rfl, rfl⟩ := e1
                exact e2)
              have HCB : Hid (∀ w', Below u5.heap.size u5 w' → w'.cell? ⟨bb, ob + y, none⟩ = some (.string (S.getD y ByteArray.empty))) := Lib.hid (fun w' h => by
                obtain ⟨b', o', e1, -, e2⟩ := (HSB.out.below h).at_ hylt
                simp only [Option.some.injEq, Addr.mk.injEq, and_true] at e1
                obtain ⟨rfl, rfl⟩ := e1
                exact e2)
              obtain ⟨s1, s2, s3⟩ := den_look HVM.out HDE.out HLS.out (show S.getD y ByteArray.empty ∈ S by simp [List.getD, hylt])
              have HKA := Lib.hid (fun (w' : World) (h : Below u5.heap.size u5 w') => plook_any M _ (S.getD y ByteArray.empty) (q : Int) w' (HRM.out.below (bgo G5.out h)) (by have := HML.out; omega))
              have HKB := Lib.hid (fun (w' : World) (h : Below u5.heap.size u5 w') => plook_any X _ (S.getD y ByteArray.empty) (q : Int) w' (HRX.out.below (bgo G5.out h)) (by have := HXL.out; omega))
              rw [s1] at HKA
              rw [s2, ← s3] at HKB
              clear s1 s2 s3
              generalize S.getD y ByteArray.empty = nm at *
              generalize lokO M nm (q : Int) = ov at *
              have d0 := HCA.out _ HB2.out
              go_upto_region 25 with (first
                | (go_at_call 19; (with_reducible refine (HKA.out _ HB2.out).mono ?_); rintro e u6 ⟨rfl, hb⟩; have G6 := Lib.hid (bgo HB2.out hb); have d1 := HCA.out _ G6.out; clear hb)
                | (go_at_call 19; (with_reducible refine (HKB.out _ G6.out).mono ?_); rintro e u7 ⟨rfl, hb⟩; have G7 := Lib.hid (bgo G6.out hb); have d2 := HCA.out _ G7.out; have d3 := HCB.out _ G7.out; clear hb))
              clear d0 d1
              go_quiet (fail)
              go_wp2
              go_roundw
              case rel => exact ⟨y + 1, HYL.out, by go_num, Lib.hid (below_drewN G7.out _)⟩
              case measure => have := HYL.out; simp [intOf]; omega
            · obtain rfl : y = S.length := by omega
              go_wp2
              go_roundw
              case rel => exact ⟨q + 1, by omega, by go_num, Lib.hid (bgo G5.out HB2.out)⟩
              case measure => simp [intOf]; omega
        · obtain rfl : q = k := by omega
          have HVA := Lib.hid (fun (w' : World) (h : Below w3.heap.size w3 w') => pvalb_any X _ w' (HRX.out.below h) HXL.out)
          rw [HVX.out] at HVA
          go_wp2_with (first
            | (go_at_call 20; refine (HVA.out _ HB.out).mono ?_; rintro e u8 ⟨rfl, hb⟩; have G8 := Lib.hid (bgo HB.out hb); clear hb)
            | (go_at_call 12; refine (known18_any _).mono ?_; rintro e u9 ⟨rfl, hb⟩; have G9 := Lib.hid (bgo G8.out hb); clear hb))
          go_ret
          exact ⟨rfl, bgo HBW.out G9.out⟩
    · obtain rfl := HNZ.out hze
      generalize renE M nm tn (k : Int) = ez at *
      have hze2 : (ez == 0) = false := beq_eq_false_iff_ne.2 hze
      simp only [List.length_nil]
      go_wp2_with (go_at_call 12; refine (known18_any _).mono ?_; rintro e u9 ⟨rfl, hb⟩; have G9 := Lib.hid hb; clear hb)
      go_ret
      exact ⟨rfl, bgo HBW.out G9.out⟩
end Go.Proofs.Ytpehbfghajlgmaa
