/- The walk of ChainKeeps. -/
import Derived.Test.YtakickggpfbafaaChP
import Derived.Test.YtakickggpfbafaaChF
import Derived.Test.YtakickggpfbafaaChK
import Derived.Test.YtakickggpfbafaaArgsPn
namespace Go.Proofs.Ytakickggpfbafaa
open Go.RowKit
set_option linter.unusedVariables false
set_option linter.unusedSimpArgs false
theorem plus_p {K : Nat} {L : List Vn} (h : ∀ x ∈ L, x.p.length ≤ K) {f : Int} {p : List Int} (hp : p.length ≤ K) : ∀ x ∈ plusV L f p, x.p.length ≤ K := by
  intro x hx
  unfold plusV endV at hx
  have hl : (lastV L).p.length ≤ K := by
    unfold lastV
    by_cases hl : L.length - 1 < L.length
    · have e : L.getD (L.length - 1) Vn.z = L[L.length - 1] := by simp [List.getD, hl]
      rw [e]
      exact h _ (List.getElem_mem hl)
    · have e : L.getD (L.length - 1) Vn.z = Vn.z := by simp [List.getD, List.getElem?_eq_none (Nat.le_of_not_lt hl)]
      rw [e]
      exact Nat.zero_le _
  rcases List.mem_append.1 hx with h' | h'
  · split at h'
    · rcases List.mem_or_eq_of_mem_set h' with h' | rfl
      · exact h x h'
      · exact hl
    · exact h x h'
  · rw [List.mem_singleton] at h'
    subst h'
    exact hp
set_option maxRecDepth 100000 in
set_option maxHeartbeats 2000000 in
theorem chainKeeps_walk (a0 : Option Addr) (len0 cap0 : Nat) (z0 : List Int) (a1 : Int) (W : World) (w0 : InRow .i64 W a0 len0 cap0 z0) (w1 : (Lit.int .i64 a1).wf = true) :
    Calls Try.prog 6 #[.slice a0 len0 cap0, .int .i64 a1] W fun e w' => e = .returned (.bool true) ∧ Below W.heap.size W w' := by
  have hmade := made17_any (z0.take len0) _ W (inRow_rdJ w0)
  have m1 := mask2k a1
  have m2 := mask5k (a1 / 4)
  have r1 : 0 ≤ a1 % 4 ∧ a1 % 4 ≤ 3 := by omega
  have r2 : 0 ≤ a1 / 4 % 32 ∧ a1 / 4 % 32 ≤ 31 := by omega
  clear w0 w1
  generalize a1 % 4 = x1 at *
  generalize a1 / 4 % 32 = x2 at *
  go_enter Try.func6, Try.ntmps6
  go_upto_region 2 with (go_at_call 8; refine hmade.mono ?_; rintro e u1 ⟨M, L, u, hl, rfl, ho, hm, hbd, hb1⟩; have H1 := Lib.hid hb1; have R1 := Lib.hid ho.rd; have V1 := Lib.hid (hm.mono (Nat.zero_le _)); have HL := Lib.hid hl; have HBD := Lib.hid hbd; obtain ⟨ua, uc, rfl⟩ := ho.rd.shape; clear hb1 ho hm hl hmade hbd)
  have HML := Lib.hid V1.out.len
  have HVL := Lib.hid (rvalc_any M _ u1 R1.out (by have := HML.out; have := HL.out; omega))
  rw [V1.out.val] at HVL
  rw [HML.out] at R1 HVL ⊢
  by_cases hz : valV L = 0
  · rw [hz] at HVL
    by_cases hl0 : L.length = 0
    · have hl1 : ((L.length : Int) == 0) = true := by simp [hl0]
      rw [hl0] at HVL ⊢
      clear R1 V1 HBD
      go_wp2_with (first
        | (go_at_call 12; refine HVL.out.mono ?_; rintro e u2 ⟨rfl, hb2⟩; have H2 := Lib.hid (bgo H1.out hb2); clear hb2)
        | (go_at_call 7; refine (known17_any _).mono ?_; rintro e u3 ⟨rfl, hb3⟩; have H3 := Lib.hid (bgo H2.out hb3); clear hb3))
      go_ret
      exact ⟨rfl, H3.out⟩
    · have hlp : 0 < L.length := by omega
      obtain ⟨N, hN⟩ : ∃ N, L.length = N + 1 := ⟨L.length - 1, by omega⟩
      have hlt : N < L.length := by omega
      have hl1 : ((L.length : Int) == 0) = false := beq_eq_false_iff_ne.2 (by omega)
      have hlk : L.getD N Vn.z = lastV L := by unfold lastV; rw [hN, Nat.add_sub_cancel]
      have hva := valV_at hz hlt
      have hbo : L.getD N Vn.z ∈ L := by simp [List.getD, hlt]
      have hbx := HBD.out _ hbo
      have HZ := Lib.hid hz
      have HN := Lib.hid hN
      have hj1 : IntKind.i64.wrap ((L.length : Int) - 1) = (N : Int) := by rw [IntKind.wrap_i64]; have := HL.out; omega
      have hj4 : wrap64 ((L.length : Int) - 1) = (N : Int) := by unfold wrap64; have := HL.out; omega
      have hj3 : (N : Int) < (L.length : Int) := by omega
      clear hN hl0 hz
      go_upto_region 4 with (go_at_call 12; refine HVL.out.mono ?_; rintro e u2 ⟨rfl, hb2⟩; have H2 := Lib.hid (bgo H1.out hb2); have R2 := Lib.hid (R1.out.below hb2); have V2 := Lib.hid (V1.out.below hb2); clear hb2 H1 R1 V1)
      obtain ⟨b, off, s1, e1, rfl, hbl, c0, c1, c2, c3, -⟩ := vm_at R2.out V2.out hlt
      rw [hlk] at c0 c1 c2 c3 hva hbx
      have HLAST := Lib.hid (rfl : lastV L = lastV L)
      obtain ⟨X, hX⟩ : ∃ X, lastV L = X := ⟨_, rfl⟩
      rw [hX] at c0 c1 c2 c3 hva hbx
      have HXX := Lib.hid hX
      clear hX HLAST hlk hbo HVL
      obtain ⟨xn, xr, xk, xp⟩ := X
      have v1 : 1 ≤ xn := hva.1
      have v2 : 0 ≤ xr := hva.2.1
      have v3 : xn ≤ 100 := hbx.1.2
      have v4 : xr ≤ 100 := hbx.2.1.2
      simp only at c0 c1 c2 c3
      clear hva hbx
      obtain ⟨mx, hmx⟩ : ∃ mx, max xn xr = mx := ⟨_, rfl⟩
      have v5 : 1 ≤ mx ∧ mx ≤ 100 ∧ xn ≤ mx ∧ xr ≤ mx := by omega
      obtain ⟨v6, v7, v8, v9⟩ := v5
      go_upto_region 6 with fail
      have R3 := Lib.hid (R2.out.below (b1 (.cells #[.int .i64 xn, .int .i64 xr, .int .i64 xk, .slice s1 xp.length e1] 33)))
      have V3 := Lib.hid (V2.out.below (b1 (.cells #[.int .i64 xn, .int .i64 xr, .int .i64 xk, .slice s1 xp.length e1] 33)))
      have H3 := Lib.hid (bal H2.out (.cells #[.int .i64 xn, .int .i64 xr, .int .i64 xk, .slice s1 xp.length e1] 33))
      clear c0 c1 c2 c3 R2 V2 H2
      generalize u2.alloc (.cells #[.int .i64 xn, .int .i64 xr, .int .i64 xk, .slice s1 xp.length e1] 33) = u3 at *
      obtain ⟨f, hf⟩ : ∃ f, mx + 1 + x1 = f := ⟨_, rfl⟩
      rw [hf]
      have w1 : 2 ≤ f ∧ f ≤ 104 ∧ xn < f ∧ xr < f := by omega
      obtain ⟨w1, w2, w3, w4⟩ := w1
      have PA := plus_app (p := [9]) HZ.out hlp (by rw [HXX.out]; exact w3) (by rw [HXX.out]; exact w4) (by omega)
      have PV := Lib.hid (plus_val (p := [9]) HZ.out hlp (by rw [HXX.out]; exact w3) (by rw [HXX.out]; exact w4))
      have PF := Lib.hid (fun k (hk : k < f) => plus_fnd (p := [9]) hlp hk)
      have PL := Lib.hid (plusV_len L f [9])
      have PP := Lib.hid (plus_p (K := 1) (L := L) (f := f) (p := [9]) (fun x hx => by have := (HBD.out x hx).2.2.2; omega) (by decide))
      have HAP := Lib.hid (papp_any M L _ f 0 0 (.slice (some ⟨u3.heap.size, 0, none⟩) 1 1) [9] (u3.alloc (.cells #[.int .i64 9] 3)) (R3.out.below (b1 (.cells #[.int .i64 9] 3))) (V3.out.below (b1 (.cells #[.int .i64 9] 3))) (by have := HL.out; omega) (fun x hx => by have := (HBD.out x hx).2.2.2; omega) (OwnI.one (c := 9) (by decide) u3).rd ⟨by show -9223372036854775808 ≤ f ∧ f ≤ 9223372036854775807; omega, by show (-9223372036854775808 : Int) ≤ 0 ∧ (0 : Int) ≤ 9223372036854775807; decide, by show (-9223372036854775808 : Int) ≤ 0 ∧ (0 : Int) ≤ 9223372036854775807; decide, _, _, _, rfl⟩ (by decide))
      rw [PA.1, PA.2] at HAP
      generalize plusV L f [9] = A at *
      clear PA hf hmx v6 v7 v8 v9 v1 v2 v3 v4 w3 w4 HXX HBD r1 m1
      go_upto_region 9 with (go_at_call 13; refine HAP.out.mono ?_; rintro e u5 ⟨ue, MA, rfl, ho, hm, hb5⟩; have H5 := Lib.hid (bgo (bal H3.out (.cells #[.int .i64 9] 3)) hb5); have RC := Lib.hid (fun w' (hb' : Below u5.heap.size u5 w') => ((R3.out.below (b1 (.cells #[.int .i64 9] 3))).below hb5).below hb'); have VC := Lib.hid (fun w' (hb' : Below u5.heap.size u5 w') => ((V3.out.below (b1 (.cells #[.int .i64 9] 3))).below hb5).below hb'); have RA := Lib.hid (fun w' (hb' : Below u5.heap.size u5 w') => ho.rd.below hb'); have VA := Lib.hid (fun w' (hb' : Below u5.heap.size u5 w') => (hm.mono (Nat.zero_le _)).below hb'); have HMA := Lib.hid hm.len; obtain ⟨ea, ec, rfl⟩ := ho.rd.shape; clear hb5 ho hm)
      rw [HMA.out] at RA ⊢
      clear HAP R3 V3 H3
      go_wp2
      go_loopw [10, 11, 12, 13, 14] (fun k _ _ _ _ wr => ∃ q : Nat, (q : Int) ≤ f ∧ k = .int .i64 (q : Int) ∧ Hid (Below u5.heap.size u5 wr)) (fun k _ _ _ _ _ => f.toNat - (intOf k).toNat)
      case atStart => exact ⟨0, by omega, rfl, Lib.hid (Below.refl _ _)⟩
      case round =>
        obtain ⟨q, hq, rfl, HB⟩ := hrel
        by_cases hlt2 : (q : Int) < f
        · have FC := Lib.hid (pfindc_any M _ (q : Int) wr (RC.out _ HB.out) (by have := HML.out; have := HL.out; omega))
          have FA := Lib.hid (fun w' (hb' : Below wr.heap.size wr w') => pfindc_any MA _ (q : Int) w' (RA.out _ (bgo HB.out hb')) (by have := HMA.out; have := PL.out; have := HL.out; omega))
          rw [(VC.out _ HB.out).fnd] at FC
          rw [(VA.out _ HB.out).fnd, PF.out _ hlt2] at FA
          generalize fndV L (q : Int) = o at *
          cases o
          all_goals
            go_wp2_with (first
              | (go_at_call 9; refine FC.out.mono ?_; rintro e t2 ⟨rfl, hb2⟩; have T2 := Lib.hid hb2; clear hb2 FC)
              | (go_at_call 9; refine (FA.out _ T2.out).mono ?_; rintro e t3 ⟨rfl, hb3⟩; have T3 := Lib.hid (bgo T2.out hb3); clear hb3 FA T2))
            go_roundw
            case rel => exact ⟨q + 1, by omega, by go_num, Lib.hid (bgo HB.out T3.out)⟩
            case measure => simp [intOf]; omega
        · have hqf : (q : Int) = f := by omega
          have hf0 : ¬ f = 0 := by omega
          obtain ⟨cm, htm⟩ : ∃ cm, Int.tmod x2 f = cm := ⟨_, rfl⟩
          have t1 : 0 ≤ cm ∧ cm ≤ 31 := by
            rw [← htm, Int.tmod_eq_emod_of_nonneg r2.1]
            have h1 := Int.emod_nonneg x2 hf0
            have h2 : x2 % f ≤ x2 := by
              have := Int.emod_add_mul_ediv x2 f
              have h3 := Int.ediv_nonneg r2.1 (show 0 ≤ f by omega)
              have h4 := Int.mul_nonneg (show 0 ≤ f by omega) h3
              omega
            omega
          have hnl : ¬ (q : Int) < f := hlt2
          have HB6 := Lib.hid (bal HB.out (.cells #[.int .i64 cm, .int .i64 1] 41))
          have PD := Lib.hid (pdead_any MA A _ [⟨cm, 1⟩] _ (wr.alloc (.cells #[.int .i64 cm, .int .i64 1] 41)) (RA.out _ HB6.out) (VA.out _ HB6.out) (by have := PL.out; have := HL.out; omega) (OwnPn.one (x := ⟨cm, 1⟩) ⟨by show -9223372036854775808 ≤ cm ∧ cm ≤ 9223372036854775807; omega, by show (-9223372036854775808 : Int) ≤ 1 ∧ (1 : Int) ≤ 9223372036854775807; decide⟩ wr).rd (by simp))
          have HDM := Lib.hid (fun d (h : d ∈ deadF [⟨cm, 1⟩] A 0) => deadF_mem h)
          have HDL := Lib.hid (deadF_len [⟨cm, 1⟩] A 0)
          generalize deadF [⟨cm, 1⟩] A 0 = D at *
          go_upto_region 18 with (go_at_call 18; refine PD.out.mono ?_; rintro e t7 ⟨vd, rfl, ho, hb7⟩; have T7 := Lib.hid (bgo HB6.out hb7); have RD := Lib.hid (fun w' (hb' : Below t7.heap.size t7 w') => ho.rd.below hb'); obtain ⟨da, dc, rfl⟩ := ho.rd.shape; clear hb7 ho)
          have FA := Lib.hid (pfindc_any MA _ cm t7 (RA.out _ T7.out) (by have := HMA.out; have := PL.out; have := HL.out; omega))
          rw [(VA.out _ T7.out).fnd] at FA
          have HFD := Lib.hid (fun i (h : fndV A cm = some i) => fnd_lt h)
          have HFR := Lib.hid (fun j (h1 : j < A.length) (h2 : hldC (A.getD j Vn.z).n (A.getD j Vn.z).r cm = false) => fir_rem (p := fun x => hldC x.n x.r cm) h1 h2)
          simp only [← fndV_eq] at HFR
          generalize hfo : fndV A cm = o at *
          clear hfo
          cases o with
          | none =>
            simp only [fndI, Option.isSome_some, Option.isSome_none] at FA
            go_upto_region 21 with (go_at_call 9; refine FA.out.mono ?_; rintro e t8 ⟨rfl, hb8⟩; have T8 := Lib.hid (bgo T7.out hb8); have T78 := Lib.hid hb8; clear hb8 FA)
            have hdb : D.length ≤ 100 := by have := HDL.out; have := PL.out; have := HL.out; omega
            go_wp2
            go_loopw [19, 20, 21, 22, 23, 24] (fun k _ _ _ _ _ wr => ∃ q : Nat, q ≤ D.length ∧ k = .int .i64 (q : Int) ∧ Hid (Below t8.heap.size t8 wr)) (fun k _ _ _ _ _ _ => D.length - (intOf k).toNat)
            case atStart => exact ⟨0, by omega, rfl, Lib.hid (Below.refl _ _)⟩
            case round =>
              clear hlt2 hqf HB hnl
              obtain ⟨q2, hq2, rfl, HB⟩ := hrel
              by_cases hlt2 : q2 < D.length
              · have hqi : (q2 : Int) < (D.length : Int) := by omega
                have HBU := Lib.hid (bgo T8.out HB.out)
                obtain ⟨bd, offd, rfl, hbd, cd⟩ := (RD.out _ (bgo T78.out HB.out)).cellG hlt2
                obtain ⟨j, hj, hjl, hjr, hjc⟩ := HDM.out (D.getD q2 0) (by simp [List.getD, hlt2])
                rw [hj, Nat.zero_add] at cd
                rw [cov_one] at hjc
                have hk := remK_at PV.out hjl
                have HRM := Lib.hid (prem_any MA A _ (A.getD j Vn.z).n wr (RA.out _ HBU.out) (VA.out _ HBU.out) (by have := PL.out; have := HL.out; omega) (fun x hx => by have := PP.out x hx; omega))
                have eX : rmvX A (A.getD j Vn.z).n = A.getD j Vn.z := by unfold rmvX; rw [hk]
                have eE : rmvE A (A.getD j Vn.z).n = 0 := by unfold rmvE; rw [hk]
                have eV : rmvV A (A.getD j Vn.z).n = A.take j ++ A.drop (j + 1) := by unfold rmvV; rw [hk]
                unfold OutX at HRM
                rw [eX, eE, eV] at HRM
                have HF5 := Lib.hid (HFR.out j hjl hjc)
                have HBL : Hid ((A.take j ++ A.drop (j + 1)).length + 1 = A.length) := Lib.hid (by simp; omega)
                obtain ⟨ba, offa, sj, ej, hba, hbal, a0c, -, -, -, -⟩ := vm_at (RA.out _ HBU.out) (VA.out _ HBU.out) hjl
                have HFB := Lib.hid (HF5.out.1 (by first | rfl | trivial))
                obtain ⟨yn, hyn⟩ : ∃ yn, (A.getD j Vn.z).n = yn := ⟨_, rfl⟩
                obtain ⟨yr, hyr⟩ : ∃ y, (A.getD j Vn.z).r = y := ⟨_, rfl⟩
                obtain ⟨yk, hyk⟩ : ∃ y, (A.getD j Vn.z).k = y := ⟨_, rfl⟩
                obtain ⟨yp, hyp⟩ : ∃ y, (A.getD j Vn.z).p = y := ⟨_, rfl⟩
                rw [hyn, hyr, hyk, hyp] at HRM
                rw [hyn] at a0c
                generalize hBB : A.take j ++ A.drop (j + 1) = B at *
                have hjn : (j : Int) < (A.length : Int) := by omega
                have hjz : ¬ (j : Int) < 0 := by omega
                subst hba
                obtain ⟨nB, hnB⟩ : ∃ n, B.length = n := ⟨_, rfl⟩
                have hw1 : IntKind.i64.wrap ((A.length : Int) - 1) = (nB : Int) := by rw [IntKind.wrap_i64]; have := HBL.out; have := PL.out; have := HL.out; omega
                have hw2 : wrap64 ((A.length : Int) - 1) = (nB : Int) := by unfold wrap64; have := HBL.out; have := PL.out; have := HL.out; omega
                have HNB := Lib.hid hnB
                have HJR := Lib.hid hjl
                clear hBB hk eX eE eV hj hjr hjc hyn hyr hyk hyp hnB
                go_upto_region 27 with (go_at_call 20; refine HRM.out.mono ?_; rintro e t9 ⟨ve, ME, sE, rfl, ho, hm, hs, hb9⟩; obtain ⟨sea, sec, rfl⟩ := hs.rd.shape; have T9 := Lib.hid hb9; have RE := Lib.hid ho.rd; have VE := Lib.hid (hm.mono (Nat.zero_le _)); obtain ⟨va, vc, rfl⟩ := ho.rd.shape; clear hb9 ho hm hs)
                have HME : Hid (ME.length = nB) := Lib.hid (VE.out.len.trans HNB.out)
                have R10 := Lib.hid (RE.out.below (b1 (.cells #[.int .i64 yn, .int .i64 yr, .int .i64 yk, .slice sea yp.length sec] 33)))
                have V10 := Lib.hid (VE.out.below (b1 (.cells #[.int .i64 yn, .int .i64 yr, .int .i64 yk, .slice sea yp.length sec] 33)))
                have T10 := Lib.hid (bal T9.out (.cells #[.int .i64 yn, .int .i64 yr, .int .i64 yk, .slice sea yp.length sec] 33))
                have W10 := Lib.hid (RowAt.new t9 #[.int .i64 yn, .int .i64 yr, .int .i64 yk, .slice sea yp.length sec] 33)
                rw [HME.out] at R10
                rw [HME.out]
                clear RE VE T9
                generalize t9.alloc (.cells #[.int .i64 yn, .int .i64 yr, .int .i64 yk, .slice sea yp.length sec] 33) = t10 at *
                generalize t9.heap.size = g9 at *
                have FB := Lib.hid (pfindc_any ME _ cm t10 R10.out (by have := HME.out; have := HNB.out; have := HBL.out; have := PL.out; have := HL.out; omega))
                rw [V10.out.fnd, HFB.out] at FB
                simp only [fndI, Option.isSome_some, Option.isSome_none] at FB
                go_upto_region 28 with (go_at_call 9; refine FB.out.mono ?_; rintro e t11 ⟨rfl, hb11⟩; have T11 := Lib.hid (bgo T10.out hb11); have W11 := Lib.hid (W10.out.go hb11); clear hb11)
                have x0 := W11.out.cell (j := 0) rfl
                have cd2 := ((bcell T11.out).1 _ _ hbd).trans cd
                have a0d := ((bcell T11.out).1 _ _ hbal).trans a0c
                go_quiet (fail)
                go_wp2
                go_roundw
                case rel => exact ⟨q2 + 1, by omega, by go_num, Lib.hid (below_drewN (bgo HB.out T11.out) _)⟩
                case measure => simp [intOf]; omega
              · obtain rfl : q2 = D.length := by omega
                have HBU := Lib.hid (bgo T8.out HB.out)
                have PVA := Lib.hid (fun w' (hb' : Below wr.heap.size wr w') => pvalc_any MA _ w' (RA.out _ (bgo HBU.out hb')) (by have := HMA.out; have := PL.out; have := HL.out; omega))
                rw [(VA.out _ HBU.out).val, PV.out] at PVA
                go_wp2_with (first
                  | (go_at_call 11; refine (PVA.out _ (Below.refl _ _)).mono ?_; rintro e t12 ⟨rfl, hb12⟩; have T12 := Lib.hid hb12; clear hb12)
                  | (go_at_call 7; refine (known17_any _).mono ?_; rintro e t13 ⟨rfl, hb13⟩; have T13 := Lib.hid (bgo T12.out hb13); clear hb13))
                go_ret
                exact ⟨rfl, bgo H5.out (bgo HBU.out T13.out)⟩
          | some i =>
            obtain ⟨hi1, hi2⟩ := HFD.out i rfl
            have hi3 : (i : Int) < (A.length : Int) := by omega
            have hi5 : decide (A.length ≤ i) = false := decide_eq_false (by omega)
            have hi6 : decide ((i : Int) < 0) = false := decide_eq_false (by omega)
            have hi7 : decide ((A.length : Int) ≤ (i : Int)) = false := decide_eq_false (by omega)
            simp only [fndI, Option.isSome_some, Option.isSome_none] at FA
            go_upto_region 21 with (go_at_call 9; refine FA.out.mono ?_; rintro e t8 ⟨rfl, hb8⟩; have T8 := Lib.hid (bgo T7.out hb8); have T78 := Lib.hid hb8; clear hb8 FA)
            have hdb : D.length ≤ 100 := by have := HDL.out; have := PL.out; have := HL.out; omega
            go_wp2
            go_loopw [19, 20, 21, 22, 23, 24] (fun k _ _ _ _ _ wr => ∃ q : Nat, q ≤ D.length ∧ k = .int .i64 (q : Int) ∧ Hid (Below t8.heap.size t8 wr)) (fun k _ _ _ _ _ _ => D.length - (intOf k).toNat)
            case atStart => exact ⟨0, by omega, rfl, Lib.hid (Below.refl _ _)⟩
            case round =>
              clear hlt2 hqf HB hnl
              obtain ⟨q2, hq2, rfl, HB⟩ := hrel
              by_cases hlt2 : q2 < D.length
              · have hqi : (q2 : Int) < (D.length : Int) := by omega
                have HBU := Lib.hid (bgo T8.out HB.out)
                obtain ⟨bd, offd, rfl, hbd, cd⟩ := (RD.out _ (bgo T78.out HB.out)).cellG hlt2
                obtain ⟨j, hj, hjl, hjr, hjc⟩ := HDM.out (D.getD q2 0) (by simp [List.getD, hlt2])
                rw [hj, Nat.zero_add] at cd
                rw [cov_one] at hjc
                have hk := remK_at PV.out hjl
                have HRM := Lib.hid (prem_any MA A _ (A.getD j Vn.z).n wr (RA.out _ HBU.out) (VA.out _ HBU.out) (by have := PL.out; have := HL.out; omega) (fun x hx => by have := PP.out x hx; omega))
                have eX : rmvX A (A.getD j Vn.z).n = A.getD j Vn.z := by unfold rmvX; rw [hk]
                have eE : rmvE A (A.getD j Vn.z).n = 0 := by unfold rmvE; rw [hk]
                have eV : rmvV A (A.getD j Vn.z).n = A.take j ++ A.drop (j + 1) := by unfold rmvV; rw [hk]
                unfold OutX at HRM
                rw [eX, eE, eV] at HRM
                have HF5 := Lib.hid (HFR.out j hjl hjc)
                have HBL : Hid ((A.take j ++ A.drop (j + 1)).length + 1 = A.length) := Lib.hid (by simp; omega)
                obtain ⟨ba, offa, sj, ej, hba, hbal, a0c, -, -, -, -⟩ := vm_at (RA.out _ HBU.out) (VA.out _ HBU.out) hjl
                obtain ⟨i', hi'1, hi'2, hi'3⟩ := HF5.out.2 i rfl
                have HFB := Lib.hid hi'1
                have hij : ¬ j = i := fun h => by subst h; rw [hi2] at hjc; cases hjc
                have hij2 : ¬ (j : Int) = (i : Int) := by omega
                have hij3 : ((j : Int) == (i : Int)) = false := beq_eq_false_iff_ne.2 hij2
                obtain ⟨bi, offi, si, ei, hbi, hbil, i0c, -, -, -, -⟩ := vm_at (RA.out _ HBU.out) (VA.out _ HBU.out) hi1
                rw [hba] at hbi
                simp only [Option.some.injEq, Addr.mk.injEq, and_true] at hbi
                obtain ⟨rfl, rfl⟩ := hbi
                obtain ⟨zn, hzn⟩ : ∃ zn, (A.getD i Vn.z).n = zn := ⟨_, rfl⟩
                have hi'4 : ((A.take j ++ A.drop (j + 1)).getD i' Vn.z).n = zn := by rw [hi'3, hzn]
                have HI4 := Lib.hid hi'4
                have HI2 := Lib.hid hi'2
                rw [hzn] at i0c
                clear hi'1 hi'3 hi'4 hij hzn hi'2
                obtain ⟨yn, hyn⟩ : ∃ yn, (A.getD j Vn.z).n = yn := ⟨_, rfl⟩
                obtain ⟨yr, hyr⟩ : ∃ y, (A.getD j Vn.z).r = y := ⟨_, rfl⟩
                obtain ⟨yk, hyk⟩ : ∃ y, (A.getD j Vn.z).k = y := ⟨_, rfl⟩
                obtain ⟨yp, hyp⟩ : ∃ y, (A.getD j Vn.z).p = y := ⟨_, rfl⟩
                rw [hyn, hyr, hyk, hyp] at HRM
                rw [hyn] at a0c
                generalize hBB : A.take j ++ A.drop (j + 1) = B at *
                have hjn : (j : Int) < (A.length : Int) := by omega
                have hjz : ¬ (j : Int) < 0 := by omega
                subst hba
                obtain ⟨nB, hnB⟩ : ∃ n, B.length = n := ⟨_, rfl⟩
                have hw1 : IntKind.i64.wrap ((A.length : Int) - 1) = (nB : Int) := by rw [IntKind.wrap_i64]; have := HBL.out; have := PL.out; have := HL.out; omega
                have hw2 : wrap64 ((A.length : Int) - 1) = (nB : Int) := by unfold wrap64; have := HBL.out; have := PL.out; have := HL.out; omega
                have HNB := Lib.hid hnB
                have HJR := Lib.hid hjl
                clear hBB hk eX eE eV hj hjr hjc hyn hyr hyk hyp hnB
                go_upto_region 27 with (go_at_call 20; refine HRM.out.mono ?_; rintro e t9 ⟨ve, ME, sE, rfl, ho, hm, hs, hb9⟩; obtain ⟨sea, sec, rfl⟩ := hs.rd.shape; have T9 := Lib.hid hb9; have RE := Lib.hid ho.rd; have VE := Lib.hid (hm.mono (Nat.zero_le _)); obtain ⟨va, vc, rfl⟩ := ho.rd.shape; clear hb9 ho hm hs)
                have HME : Hid (ME.length = nB) := Lib.hid (VE.out.len.trans HNB.out)
                have R10 := Lib.hid (RE.out.below (b1 (.cells #[.int .i64 yn, .int .i64 yr, .int .i64 yk, .slice sea yp.length sec] 33)))
                have V10 := Lib.hid (VE.out.below (b1 (.cells #[.int .i64 yn, .int .i64 yr, .int .i64 yk, .slice sea yp.length sec] 33)))
                have T10 := Lib.hid (bal T9.out (.cells #[.int .i64 yn, .int .i64 yr, .int .i64 yk, .slice sea yp.length sec] 33))
                have W10 := Lib.hid (RowAt.new t9 #[.int .i64 yn, .int .i64 yr, .int .i64 yk, .slice sea yp.length sec] 33)
                rw [HME.out] at R10
                rw [HME.out]
                clear RE VE T9
                generalize t9.alloc (.cells #[.int .i64 yn, .int .i64 yr, .int .i64 yk, .slice sea yp.length sec] 33) = t10 at *
                generalize t9.heap.size = g9 at *
                have FB := Lib.hid (pfindc_any ME _ cm t10 R10.out (by have := HME.out; have := HNB.out; have := HBL.out; have := PL.out; have := HL.out; omega))
                rw [V10.out.fnd, HFB.out] at FB
                simp only [fndI, Option.isSome_some, Option.isSome_none] at FB
                go_upto_region 28 with (go_at_call 9; refine FB.out.mono ?_; rintro e t11 ⟨rfl, hb11⟩; have T11 := Lib.hid (bgo T10.out hb11); have W11 := Lib.hid (W10.out.go hb11); obtain ⟨bb, offb, sb, eb, hbb, hbbl, b0c, -, -, -, -⟩ := vm_at (R10.out.below hb11) (V10.out.below hb11) HI2.out; rw [HI4.out] at b0c; subst hbb; clear hb11)
                have x0 := W11.out.cell (j := 0) rfl
                have cd2 := ((bcell T11.out).1 _ _ hbd).trans cd
                have a0d := ((bcell T11.out).1 _ _ hbal).trans a0c
                have hip : (i' : Int) < (nB : Int) := by have := HI2.out; have := HNB.out; omega
                have hipz : ¬ (i' : Int) < 0 := by omega
                have hd1 : decide ((i' : Int) < 0) = false := decide_eq_false hipz
                have hd2 : decide ((nB : Int) ≤ (i' : Int)) = false := decide_eq_false (by omega)
                have hd4 : decide (nB ≤ i') = false := decide_eq_false (by omega)
                have hd3 : (decide ((i' : Int) < 0) || decide ((nB : Int) ≤ (i' : Int))) = false := by rw [hd1, hd2]; rfl
                have i0d := ((bcell T11.out).1 _ _ hbil).trans i0c
                go_quiet (fail)
                go_wp2
                go_roundw
                case rel => exact ⟨q2 + 1, by omega, by go_num, Lib.hid (below_drewN (bgo HB.out T11.out) _)⟩
                case measure => simp [intOf]; omega
              · obtain rfl : q2 = D.length := by omega
                have HBU := Lib.hid (bgo T8.out HB.out)
                have PVA := Lib.hid (fun w' (hb' : Below wr.heap.size wr w') => pvalc_any MA _ w' (RA.out _ (bgo HBU.out hb')) (by have := HMA.out; have := PL.out; have := HL.out; omega))
                rw [(VA.out _ HBU.out).val, PV.out] at PVA
                go_wp2_with (first
                  | (go_at_call 11; refine (PVA.out _ (Below.refl _ _)).mono ?_; rintro e t12 ⟨rfl, hb12⟩; have T12 := Lib.hid hb12; clear hb12)
                  | (go_at_call 7; refine (known17_any _).mono ?_; rintro e t13 ⟨rfl, hb13⟩; have T13 := Lib.hid (bgo T12.out hb13); clear hb13))
                go_ret
                exact ⟨rfl, bgo H5.out (bgo HBU.out T13.out)⟩
  · obtain ⟨z, hzz⟩ : ∃ z, valV L = z := ⟨_, rfl⟩
    rw [hzz] at HVL hz
    have hz1 : (z != 0) = true := by simpa using hz
    clear R1 V1 HBD
    go_wp2_with (first
      | (go_at_call 12; refine HVL.out.mono ?_; rintro e u2 ⟨rfl, hb2⟩; have H2 := Lib.hid (bgo H1.out hb2); clear hb2)
      | (go_at_call 7; refine (known17_any _).mono ?_; rintro e u3 ⟨rfl, hb3⟩; have H3 := Lib.hid (bgo H2.out hb3); clear hb3))
    go_ret
    exact ⟨rfl, H3.out⟩
end Go.Proofs.Ytakickggpfbafaa
