/- SkN: in one text. -/
import Derived.Test.YtjibbnknliamkaaGreatDoorPg18
import Derived.Test.YtjibbnknliamkaaGreatDoorPg19
namespace Go.Proofs.YtjibbnknliamkaaGreatDoor
open Go.RowKit
set_option linter.unusedVariables false
set_option linter.unusedSimpArgs false
/-- The parameters of an empty sketch are as given. -/
theorem fp_em {k S D x : Int} (h : emE k S D x = 0) : prmE k S D x = (if (decide ((emK k S D x).k = k) && decide (fpS (emK k S D x) = S) && decide (fpD (emK k S D x) = D) && decide (fpX (emK k S D x) = x)) = true then 0 else 10) := by
  unfold emE at h
  unfold prmE fpS fpD fpX emK
  dsimp only
  rcases kind_cases k with rfl | rfl | rfl | rfl | rfl | rfl | ⟨h1, h2, h3, h4, h5, h6⟩
  · by_cases a1 : S = 0 <;> by_cases a2 : D = 0 <;> by_cases a3 : x = 0 <;> simp [a1, a2, a3] <;> omega
  · simp only [if_true, show ((2 : Int) = 1) = False from by simp, if_false] at h ⊢
    unfold newE at h
    have hs : shpB D S = true := by
      by_cases hs : shpB D S = true
      · exact hs
      · rw [if_neg hs] at h; cases h
    unfold newE newC
    simp [hs]
  · simp only [if_true, show ((3 : Int) = 1) = False from by simp, show ((3 : Int) = 2) = False from by simp, if_false] at h ⊢
    unfold newLE at h
    have hs : prB S = true := by
      by_cases hs : prB S = true
      · exact hs
      · rw [if_neg hs] at h; cases h
    unfold newLE newL
    by_cases a2 : D = 0
    · subst a2; simp [hs]
    · simp [hs, a2, Ne.symm a2]
  · simp only [if_true, show ((4 : Int) = 1) = False from by simp, show ((4 : Int) = 2) = False from by simp, show ((4 : Int) = 3) = False from by simp, if_false] at h ⊢
    unfold newTE at h
    have hs : ¬ (S < 1 ∨ 32 < S) := fun hs => by rw [if_pos hs] at h; cases h
    unfold newTE newT
    by_cases a2 : D = 0 <;> by_cases a3 : x = 0 <;> simp [if_neg hs, a2, a3] <;> omega
  · simp only [if_true, show ((5 : Int) = 1) = False from by simp, show ((5 : Int) = 2) = False from by simp, show ((5 : Int) = 3) = False from by simp, show ((5 : Int) = 4) = False from by simp, if_false] at h ⊢
    unfold newQE at h
    have hs : ¬ (S < 1 ∨ 32 < S) := fun hs => by rw [if_pos hs] at h; cases h
    unfold newTE newQ
    by_cases a2 : D = 0 <;> by_cases a3 : x = 0 <;> simp [if_neg hs, a2, a3] <;> omega
  · simp only [if_true, show ((6 : Int) = 1) = False from by simp, show ((6 : Int) = 2) = False from by simp, show ((6 : Int) = 3) = False from by simp, show ((6 : Int) = 4) = False from by simp, show ((6 : Int) = 5) = False from by simp, if_false] at h ⊢
    unfold newRE at h
    have hs : szR S = true := by
      by_cases hs : szR S = true
      · exact hs
      · rw [if_neg hs] at h; cases h
    unfold newRE newR
    by_cases a2 : D = 0 <;> by_cases a3 : x = 0 <;> simp [hs, a2, a3] <;> omega
  · simp only [if_neg h1, if_neg h2, if_neg h3, if_neg h4, if_neg h5, if_neg h6] at h
    cases h
theorem prm_em {k S D x : Int} (h : emE k S D x ≠ 0) : prmE k S D x = emE k S D x := by
  unfold emE at *
  unfold prmE
  rcases kind_cases k with rfl | rfl | rfl | rfl | rfl | rfl | ⟨h1, h2, h3, h4, h5, h6⟩
  · simp at h
  · simp
  · simp only [show ((3 : Int) = 1) = False from by simp, show ((3 : Int) = 2) = False from by simp, if_false, if_true] at *
    unfold newLE at *
    split at h
    · simp at h
    · rename_i hs; simp [hs]
  · simp only [show ((4 : Int) = 1) = False from by simp, show ((4 : Int) = 2) = False from by simp, show ((4 : Int) = 3) = False from by simp, if_false, if_true, true_or] at *
    unfold newTE at *
    split at h
    · rename_i hs; simp [hs]
    · simp at h
  · simp only [show ((5 : Int) = 1) = False from by simp, show ((5 : Int) = 2) = False from by simp, show ((5 : Int) = 3) = False from by simp, show ((5 : Int) = 4) = False from by simp, if_false, if_true, or_true] at *
    unfold newQE at *
    unfold newTE
    split at h
    · rename_i hs; simp [hs]
    · simp at h
  · simp only [show ((6 : Int) = 1) = False from by simp, show ((6 : Int) = 2) = False from by simp, show ((6 : Int) = 3) = False from by simp, show ((6 : Int) = 4) = False from by simp, show ((6 : Int) = 5) = False from by simp, if_false, if_true, or_false] at *
    unfold newRE at *
    split at h
    · simp at h
    · rename_i hs; simp [hs]
  · simp [h1, h2, h3, h4, h5, h6]
theorem nu_em {k S D x : Int} (h : prmE k S D x = 0) : nuK k S D x = emK k S D x := by
  unfold nuK emK
  rw [if_neg (fun hn => hn h)]
theorem zero_own (B : Nat) (w : World) : OwnK B SK.z (.agg zcSk) w := ⟨none, 0, 0, none, 0, 0, none, 0, 0, none, 0, 0, none, 0, 0, rfl, OwnI.empty _ _, OwnI.empty _ _, OwnE.empty _ _, OwnE.empty _ _, RdB.none_ _ _⟩
theorem OwnK.mono {B B' : Nat} {s : SK} {v : Value} {w : World} (h : OwnK B s v w) (hB : B' ≤ B) : OwnK B' s v w := by
  obtain ⟨a1, n1, c1, a2, n2, c2, a3, n3, c3, a4, n4, c4, a5, n5, c5, hv, h1, h2, h3, h4, h5⟩ := h
  exact ⟨a1, n1, c1, a2, n2, c2, a3, n3, c3, a4, n4, c4, a5, n5, c5, hv, h1.mono hB, h2.mono hB, h3.mono hB, h4.mono hB, h5.mono hB⟩
theorem OwnK.oth {B g : Nat} {s : SK} {v : Value} {w w' : World} (h : OwnK B s v w) (ho : Oth g w w') (hg : g < B) : OwnK B s v w' := by
  obtain ⟨a1, n1, c1, a2, n2, c2, a3, n3, c3, a4, n4, c4, a5, n5, c5, hv, h1, h2, h3, h4, h5⟩ := h
  exact ⟨a1, n1, c1, a2, n2, c2, a3, n3, c3, a4, n4, c4, a5, n5, c5, hv, h1.oth ho hg, h2.oth ho hg, h3.oth ho hg, h4.oth ho hg, h5.oth ho hg⟩
theorem OwnK.below {B : Nat} {s : SK} {v : Value} {w w' : World} (h : OwnK B s v w) (hb : Below w.heap.size w w') : OwnK B s v w' := by
  obtain ⟨a1, n1, c1, a2, n2, c2, a3, n3, c3, a4, n4, c4, a5, n5, c5, hv, h1, h2, h3, h4, h5⟩ := h
  exact ⟨a1, n1, c1, a2, n2, c2, a3, n3, c3, a4, n4, c4, a5, n5, c5, hv, h1.below hb, h2.below hb, h3.below hb, h4.below hb, h5.below hb⟩
set_option maxRecDepth 100000 in
set_option maxHeartbeats 2000000 in
theorem new_any (k S D x : Int) (w : World) (hS : I64 S) (hD : I64 D) :
    Calls Tryz.prog 104 #[.agg #[.int .i64 k, .int .i64 S, .int .i64 D, .int .u64 x]] w fun e w' => ∃ v, e = .returned (.tuple #[v, .int .i64 (prmE k S D x)]) ∧ OwnK w.heap.size (nuK k S D x) v w' ∧ Below w.heap.size w w' := by
  have HM := Lib.hid (fun w => em_any k S D x w hS hD)
  by_cases hE : emE k S D x = 0
  · rw [hE] at HM
    have HP := Lib.hid (fp_em hE)
    have HF := Lib.hid (fun (a1 : Option Addr) (n1 c1 : Nat) (a2 : Option Addr) (n2 c2 : Nat) (a3 : Option Addr) (n3 c3 : Nat) (a4 : Option Addr) (n4 c4 : Nat) (a5 : Option Addr) (n5 c5 : Nat) w => fp_row (emK k S D x) (.slice a1 n1 c1) (.slice a2 n2 c2) (.slice a3 n3 c3) (.slice a4 n4 c4) (.slice a5 n5 c5) w)
    generalize hs : emK k S D x = s at *
    have HK : Hid (s.k = k) := Lib.hid (by rw [← hs]; rfl)
    generalize hq : (decide (s.k = k) && decide (fpS s = S) && decide (fpD s = D) && decide (fpX s = x)) = q at HP
    have HQ := Lib.hid hq
    have HN : Hid (q = true → nuK k S D x = s) := Lib.hid (fun hq => by rw [← hs]; exact nu_em (by rw [HP.out, if_pos hq]))
    have HZ : Hid (q = false → nuK k S D x = SK.z) := Lib.hid (fun hq => by unfold nuK; rw [if_pos (by rw [HP.out, hq]; decide)])
    rw [HP.out]
    generalize nuK k S D x = nu at *
    clear hE hq hs HP hS hD
    go_enter Tryz.func104, Tryz.ntmps104
    go_upto_region 1 with (fail)
    refine wp_genW (fun w1 => RowAt w.heap.size #[.int .i64 k, .int .i64 S, .int .i64 D, .int .u64 x] w1 ∧ RowAt (w.heap.size + 1) zcSk w1 ∧ Below w.heap.size w w1 ∧ w.heap.size + 2 ≤ w1.heap.size) ⟨(RowAt.new _ _ _).al _, RowAt.new1 _ _ _ _, b2 _ _, by simp⟩ ?_
    rintro w1 ⟨r1, r2, hb, hl⟩
    have R1 := Lib.hid r1
    have Q1 := Lib.hid r2
    have B1 := Lib.hid hb
    have L1 := Lib.hid hl
    clear r1 r2 hb hl
    go_upto_region 4 with (first
      | (refine ldPm (B := #[.int .i64 k, .int .i64 S, .int .i64 D, .int .u64 x]) rfl rfl rfl R1.out rfl (by kernel_rfl) ?_)
      | (go_at_call 138; (with_reducible refine (HM.out _).mono ?_); rintro e w2 ⟨v, rfl, ho, hb2⟩; obtain ⟨a1, n1, c1, a2, n2, c2, a3, n3, c3, a4, n4, c4, a5, n5, c5, rfl, hr⟩ := ho; have O2 : Hid (OwnRows w1.heap.size s (.slice a1 n1 c1) (.slice a2 n2 c2) (.slice a3 n3 c3) (.slice a4 n4 c4) (.slice a5 n5 c5) w2) := Lib.hid hr; have R2 := Lib.hid (R1.out.go hb2); have Q2 := Lib.hid (Q1.out.go hb2); have B2 := Lib.hid (bgo B1.out hb2); have L2 := Lib.hid (Nat.le_trans L1.out hb2.size); have M2 := Lib.hid hb2.size; clear hb2 hr R1 Q1 B1)
      | (refine stWh rfl rfl rfl (RowAt.new _ _ _) rfl rfl rfl rfl ?_; intro w3 r3 o3; have S3 := Lib.hid r3; have O3 := Lib.hid (Below.trans (b1 _) (o3.1 : Below w2.heap.size _ w3)); have R3 := Lib.hid (R2.out.go O3.out); have Q3 := Lib.hid (Q2.out.go O3.out); have B3 := Lib.hid (bgo B2.out O3.out); have L3 := Lib.hid (Nat.le_trans L2.out O3.out.size); clear r3 o3 R2 Q2 B2))
    rename_i K hK
    refine wp_region_quiet (C := fun w' => Below w3.heap.size w3 w') (by kernel_rfl) (by kernel_rfl) ⟨rfl, rfl, rfl, Nat.le_refl _, fun _ _ => rfl⟩ ?_
    refine wpQuiet_do (v := .agg (skA s (.slice a1 n1 c1) (.slice a2 n2 c2) (.slice a3 n3 c3) (.slice a4 n4 c4) (.slice a5 n5 c5))) rfl (fun w' hc => quiet_value (run_part rfl rfl (S3.out.go hc) Tryz.underlying48 rfl infSk (by kernel_rfl))) ?_
    refine wpQuiet_do (v := .agg #[.int .i64 s.k, .int .i64 (fpS s), .int .i64 (fpD s), .int .u64 (fpX s)]) rfl (fun w' hc => quiet_enter (run_call1 (Go.Proofs.enters_of Tryz.func65 (by kernel_rfl) rfl) rfl rfl) ((HF.out a1 n1 c1 a2 n2 c2 a3 n3 c3 a4 n4 c4 a5 n5 c5 w').mono (fun e w'' h => ⟨h.1, bgo hc h.2⟩))) ?_
    refine wpQuiet_do (v := .agg #[.int .i64 k, .int .i64 S, .int .i64 D, .int .u64 x]) rfl (fun w' hc => quiet_value (run_part rfl rfl (R3.out.go hc) Tryz.underlying32 rfl infPm rfl)) ?_
    refine wpQuiet_do (v := .bool (!q)) rfl (fun w' hc => quiet_value ((neqPm rfl rfl rfl).trans (by rw [HQ.out]))) ?_
    refine wpQuiet_nil ?_
    intro w4 hw4
    have S4 := Lib.hid (S3.out.go hw4)
    have Q4 := Lib.hid (Q3.out.go hw4)
    have B4 := Lib.hid (bgo B3.out hw4)
    have L4 := Lib.hid (Nat.le_trans L3.out hw4.size)
    have O4 : Hid (OwnRows w1.heap.size s (.slice a1 n1 c1) (.slice a2 n2 c2) (.slice a3 n3 c3) (.slice a4 n4 c4) (.slice a5 n5 c5) w4) := Lib.hid ⟨(O2.out.1.below O3.out).below hw4, (O2.out.2.1.below O3.out).below hw4, (O2.out.2.2.1.below O3.out).below hw4, (O2.out.2.2.2.1.below O3.out).below hw4, (O2.out.2.2.2.2.below O3.out).below hw4⟩
    clear hw4 S3 R3 Q3 B3 L3 O3 O2 HF HM HQ
    refine hK _ _ ?_
    clear hK
    try simp only [Act.put, List.getElem_toArray, List.getElem_cons_zero, List.getElem_cons_succ, List.setIfInBounds_toArray, List.set_cons_zero, List.set_cons_succ]
    cases q with
    | true =>
      have HN2 := Lib.hid (HN.out rfl)
      clear HN HZ
      go_wp2_with (first
        | (refine ldSk (B := skA s (.slice a1 n1 c1) (.slice a2 n2 c2) (.slice a3 n3 c3) (.slice a4 n4 c4) (.slice a5 n5 c5)) rfl rfl rfl S4.out rfl (by kernel_rfl) ?_)
        | (refine stWh rfl rfl rfl Q4.out rfl rfl rfl rfl ?_; intro w5 r5 o5; have Q5 := Lib.hid r5; have B5 := Lib.hid (B4.out.trans (o5.1.mono (Nat.le_succ _))); have O5 := Lib.hid (OwnK.oth ⟨a1, n1, c1, a2, n2, c2, a3, n3, c3, a4, n4, c4, a5, n5, c5, rfl, O4.out⟩ o5 (by have := L1.out; omega)); clear r5 o5))
      exact ret_row2 Tryz.results104 rfl rfl rfl Q5.out Tryz.underlying48 rfl infSk ⟨_, rfl, by rw [HN2.out]; exact O5.out.mono (by have := L1.out; omega), B5.out⟩
    | false =>
      have HN2 := Lib.hid (HZ.out rfl)
      clear HN HZ
      go_wp2_with (refine stWh rfl rfl rfl Q4.out rfl rfl rfl rfl ?_; intro w5 r5 o5; have Q5 := Lib.hid r5; have B5 := Lib.hid (B4.out.trans (o5.1.mono (Nat.le_succ _))); clear r5 o5)
      exact ret_row2 Tryz.results104 rfl rfl rfl Q5.out Tryz.underlying48 rfl infSk ⟨_, rfl, by rw [HN2.out]; exact zero_own _ _, B5.out⟩
  · have HP := Lib.hid (prm_em hE)
    have HZ : Hid (nuK k S D x = SK.z) := Lib.hid (by unfold nuK; rw [if_pos (by rw [HP.out]; exact hE)])
    rw [HP.out, HZ.out]
    have hE2 : (emE k S D x != 0) = true := by simp [hE]
    generalize emK k S D x = s at *
    generalize emE k S D x = E at *
    clear hE HP HZ hS hD
    go_enter Tryz.func104, Tryz.ntmps104
    go_upto_region 1 with (fail)
    refine wp_genW (fun w1 => RowAt w.heap.size #[.int .i64 k, .int .i64 S, .int .i64 D, .int .u64 x] w1 ∧ RowAt (w.heap.size + 1) zcSk w1 ∧ Below w.heap.size w w1 ∧ w.heap.size + 2 ≤ w1.heap.size) ⟨(RowAt.new _ _ _).al _, RowAt.new1 _ _ _ _, b2 _ _, by simp⟩ ?_
    rintro w1 ⟨r1, r2, hb, hl⟩
    have R1 := Lib.hid r1
    have Q1 := Lib.hid r2
    have B1 := Lib.hid hb
    have L1 := Lib.hid hl
    clear r1 r2 hb hl
    go_wp2_with (first
      | (refine ldPm (B := #[.int .i64 k, .int .i64 S, .int .i64 D, .int .u64 x]) rfl rfl rfl R1.out rfl (by kernel_rfl) ?_)
      | (go_at_call 138; (with_reducible refine (HM.out _).mono ?_); rintro e w2 ⟨v, rfl, ho, hb2⟩; obtain ⟨a1, n1, c1, a2, n2, c2, a3, n3, c3, a4, n4, c4, a5, n5, c5, rfl, hr⟩ := ho; have O2 : Hid (OwnRows w1.heap.size s (.slice a1 n1 c1) (.slice a2 n2 c2) (.slice a3 n3 c3) (.slice a4 n4 c4) (.slice a5 n5 c5) w2) := Lib.hid hr; have R2 := Lib.hid (R1.out.go hb2); have Q2 := Lib.hid (Q1.out.go hb2); have B2 := Lib.hid (bgo B1.out hb2); have L2 := Lib.hid (Nat.le_trans L1.out hb2.size); have M2 := Lib.hid hb2.size; clear hb2 hr R1 Q1 B1)
      | (refine stWh rfl rfl rfl (RowAt.new _ _ _) rfl rfl rfl rfl ?_; intro w3 r3 o3; have S3 := Lib.hid r3; have O3 := Lib.hid (Below.trans (b1 _) (o3.1 : Below w2.heap.size _ w3)); have R3 := Lib.hid (R2.out.go O3.out); have Q3 := Lib.hid (Q2.out.go O3.out); have B3 := Lib.hid (bgo B2.out O3.out); have L3 := Lib.hid (Nat.le_trans L2.out O3.out.size); clear r3 o3 R2 Q2 B2)
      | (refine stWh rfl rfl rfl Q3.out rfl rfl rfl rfl ?_; intro w5 r5 o5; have Q5 := Lib.hid r5; have B5 := Lib.hid (B3.out.trans (o5.1.mono (Nat.le_succ _))); clear r5 o5))
    exact ret_row2 Tryz.results104 rfl rfl rfl Q5.out Tryz.underlying48 rfl infSk ⟨_, rfl, zero_own _ _, B5.out⟩
set_option maxRecDepth 100000 in
set_option maxHeartbeats 2000000 in
theorem vp_any (k S D x : Int) (w : World) (hS : I64 S) (hD : I64 D) :
    Calls Tryz.prog 63 #[.agg #[.int .i64 k, .int .i64 S, .int .i64 D, .int .u64 x]] w fun e w' => e = .returned (.int .i64 (prmE k S D x)) ∧ Below w.heap.size w w' := by
  have HM := Lib.hid (fun w => new_any k S D x w hS hD)
  generalize nuK k S D x = s at *
  generalize prmE k S D x = E at *
  clear hS hD
  go_enter Tryz.func63, Tryz.ntmps63
  go_upto_region 1 with (fail)
  refine wp_genW (fun w1 => RowAt w.heap.size #[.int .i64 k, .int .i64 S, .int .i64 D, .int .u64 x] w1 ∧ Below w.heap.size w w1) ⟨RowAt.new _ _ _, b1 _⟩ ?_
  rintro w1 ⟨r1, hb⟩
  have R1 := Lib.hid r1
  have B1 := Lib.hid hb
  clear r1 hb
  go_wp2_with (first
    | (refine ldPm (B := #[.int .i64 k, .int .i64 S, .int .i64 D, .int .u64 x]) rfl rfl rfl R1.out rfl (by kernel_rfl) ?_)
    | (go_at_call 104; (with_reducible refine (HM.out _).mono ?_); rintro e w2 ⟨v, rfl, ho, hb2⟩; obtain ⟨a1, n1, c1, a2, n2, c2, a3, n3, c3, a4, n4, c4, a5, n5, c5, rfl, hr⟩ := ho; have B2 := Lib.hid (bgo B1.out hb2); clear hb2 hr R1 B1)
    | (refine stWh rfl rfl rfl (RowAt.new _ _ _) rfl rfl rfl rfl ?_; intro w3 r3 o3; have B3 := Lib.hid (bgo B2.out (Below.trans (b1 _) (o3.1 : Below w2.heap.size _ w3))); clear r3 o3 B2))
  go_ret
  exact ⟨rfl, B3.out⟩
end Go.Proofs.YtjibbnknliamkaaGreatDoor
