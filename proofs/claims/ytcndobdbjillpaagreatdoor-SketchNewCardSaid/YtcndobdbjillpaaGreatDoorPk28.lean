/- Law12N: in one text. -/
import Derived.Test.YtcndobdbjillpaaGreatDoorPk27
namespace Go.Proofs.YtcndobdbjillpaaGreatDoor
open Go.RowKit
set_option linter.unusedVariables false
set_option linter.unusedSimpArgs false
theorem nu_small (k S D x : Int) : (nuK k S D x).t.L.length ≤ 549755813888 ∧ (nuK k S D x).f.L.length ≤ 549755813888 ∧ LOk (nuK k S D x).r.L := by
  unfold nuK
  have hl : LOk [] := ⟨by decide, fun l hl => by cases hl⟩
  split
  · exact ⟨by decide, by decide, hl⟩
  · dsimp only
    refine ⟨?_, ?_, ?_⟩
    · split
      · unfold newT; split <;> exact Nat.zero_le _
      · decide
    · split
      · unfold newQ; split <;> exact Nat.zero_le _
      · decide
    · split
      · unfold newR; split <;> exact hl
      · exact hl
set_option maxRecDepth 100000 in
set_option maxHeartbeats 2000000 in
theorem sketchNew_walk (n x : Int) (W : World) (wn : (Lit.int .i64 n).wf = true) (wx : (Lit.int .u64 x).wf = true) :
    Calls Tryz.prog 3 #[.int .i64 n, .int .u64 x] W fun e w' => e = .returned (.bool true) ∧ Below W.heap.size W w' := by
  have HP := Lib.hid (fun w => lprm_any n x w)
  have H9 := Lib.hid (fun w => known12_any w)
  clear wn wx
  go_enter Tryz.func3, Tryz.ntmps3
  go_upto_region 4 with (first
    | (go_at_call 10; (with_reducible refine (HP.out _).mono ?_); rintro e w1 ⟨k, S, D, y, rfl, hS, hD, hb1⟩; have B1 := Lib.hid hb1; have HN := Lib.hid (fun w => new_any k S D y w hS hD); have HR := Lib.hid (fun w => rn_any k S D y w hS hD); have HV := Lib.hid (fun w => vp_any k S D y w hS hD); have HW := Lib.hid (fun w => rvp_any k S D y w hS); have HL := Lib.hid (nu_small k S D y); generalize nuK k S D y = s at HN HR HL; generalize prmE k S D y = E at HN HR HV HW; clear hb1 hS hD)
    | (refine stPm (A' := #[.int .i64 k, .int .i64 S, .int .i64 D, .int .u64 y]) rfl rfl rfl (RowAt.new w1 _ _) rfl rfl (all_one rfl) (show 0 + 4 ≤ 4 by decide) (by kernel_rfl) ?_; intro w2 r2 o2; have R2 := Lib.hid r2; have B2 := Lib.hid (bgo B1.out (Below.trans (b1 _) (o2.1 : Below w1.heap.size _ w2))); clear r2 o2 B1)
    | (refine ldPm (B := #[.int .i64 k, .int .i64 S, .int .i64 D, .int .u64 y]) rfl rfl rfl R2.out rfl (by kernel_rfl) ?_)
    | (go_at_call 11; (with_reducible refine (HN.out _).mono ?_); rintro e w3 ⟨v, rfl, ho, hb3⟩; obtain ⟨a1, c1, a2, c2, a3, c3, a4, c4, a5, c5, rfl, hr⟩ := ho.rd.run; have O3 := Lib.hid hr; have R3 := Lib.hid (R2.out.go hb3); have B3 := Lib.hid (bgo B2.out hb3); clear hb3 hr ho R2 B2)
    | (refine stWh rfl rfl rfl (RowAt.new w3 _ _) rfl rfl rfl rfl ?_; intro w4 r4 o4; have S4 := Lib.hid r4; have D4 := Lib.hid (Below.trans (b1 _) (o4.1 : Below w3.heap.size _ w4)); have R4 := Lib.hid (R3.out.go D4.out); have B4 := Lib.hid (bgo B3.out D4.out); have O4 := Lib.hid (O3.out.below D4.out); clear r4 o4 B3 R3 O3)
    | (refine ldPm (B := #[.int .i64 k, .int .i64 S, .int .i64 D, .int .u64 y]) rfl rfl rfl R4.out rfl (by kernel_rfl) ?_)
    | (go_at_call 12; (with_reducible refine (HR.out _).mono ?_); rintro e w5 ⟨v, rfl, ho, hb5⟩; obtain ⟨u1, d1, u2, d2, u3, d3, u4, d4, u5, d5, rfl, hr⟩ := ho.rd.run; have Q5 := Lib.hid hr; have O5 := Lib.hid (O4.out.below hb5); have S5 := Lib.hid (S4.out.go hb5); have R5 := Lib.hid (R4.out.go hb5); have B5 := Lib.hid (bgo B4.out hb5); clear hb5 hr ho R4 B4 S4 O4)
    | (refine stWh rfl rfl rfl (RowAt.new w5 _ _) rfl rfl rfl rfl ?_; intro w6 r6 o6; have T6 := Lib.hid r6; have D6 := Lib.hid (Below.trans (b1 _) (o6.1 : Below w5.heap.size _ w6)); have R6 := Lib.hid (R5.out.go D6.out); have S6 := Lib.hid (S5.out.go D6.out); have B6 := Lib.hid (bgo B5.out D6.out); have O6 : Hid (RowsK s (.slice a1 s.c.L.length c1) (.slice a2 s.l.L.length c2) (.slice a3 s.t.L.length c3) (.slice a4 s.f.L.length c4) (.slice a5 s.r.L.length c5) w6) := Lib.hid (O5.out.below D6.out); have Q6 : Hid (RowsK s (.slice u1 s.c.L.length d1) (.slice u2 s.l.L.length d2) (.slice u3 s.t.L.length d3) (.slice u4 s.f.L.length d4) (.slice u5 s.r.L.length d5) w6) := Lib.hid (Q5.out.below D6.out); clear r6 o6 B5 R5 S5 O5 Q5))
  rename_i K hK
  refine wp_region_quiet (C := fun w' => Below w6.heap.size w6 w') (by kernel_rfl) (by kernel_rfl) ⟨rfl, rfl, rfl, Nat.le_refl _, fun _ _ => rfl⟩ ?_
  refine wpQuiet_do (v := .int .i64 E) rfl (fun w' hc => quiet_value (run_mv rfl rfl)) ?_
  try simp only [Act.put, List.getElem_toArray, List.getElem_cons_zero, List.getElem_cons_succ, List.setIfInBounds_toArray, List.set_cons_zero, List.set_cons_succ]
  refine wpQuiet_do (v := .int .i64 E) rfl (fun w' hc => quiet_value (run_mv rfl rfl)) ?_
  try simp only [Act.put, List.getElem_toArray, List.getElem_cons_zero, List.getElem_cons_succ, List.setIfInBounds_toArray, List.set_cons_zero, List.set_cons_succ]
  refine wpQuiet_do (v := .bool true) rfl (fun w' hc => quiet_value (eqEr rfl rfl rfl)) ?_
  try simp only [Act.put, List.getElem_toArray, List.getElem_cons_zero, List.getElem_cons_succ, List.setIfInBounds_toArray, List.set_cons_zero, List.set_cons_succ]
  refine wpQuiet_do (v := .bool true) rfl (fun w' hc => quiet_value (run_mv rfl rfl)) ?_
  try simp only [Act.put, List.getElem_toArray, List.getElem_cons_zero, List.getElem_cons_succ, List.setIfInBounds_toArray, List.set_cons_zero, List.set_cons_succ]
  refine wpQuiet_if (p := true) (v := .agg (skA s (.slice a1 s.c.L.length c1) (.slice a2 s.l.L.length c2) (.slice a3 s.t.L.length c3) (.slice a4 s.f.L.length c4) (.slice a5 s.r.L.length c5))) rfl (fun _ w' hc => quiet_value (run_part rfl rfl (S6.out.go hc) Tryz.underlying42 rfl infSk (by kernel_rfl))) ?_
  try simp only [Act.put, List.getElem_toArray, List.getElem_cons_zero, List.getElem_cons_succ, List.setIfInBounds_toArray, List.set_cons_zero, List.set_cons_succ]
  refine wpQuiet_if (p := true) (v := .agg (skA s (.slice u1 s.c.L.length d1) (.slice u2 s.l.L.length d2) (.slice u3 s.t.L.length d3) (.slice u4 s.f.L.length d4) (.slice u5 s.r.L.length d5))) rfl (fun _ w' hc => quiet_value (run_part rfl rfl (T6.out.go hc) Tryz.underlying42 rfl infSk (by kernel_rfl))) ?_
  try simp only [Act.put, List.getElem_toArray, List.getElem_cons_zero, List.getElem_cons_succ, List.setIfInBounds_toArray, List.set_cons_zero, List.set_cons_succ]
  refine wpQuiet_if (p := true) (v := .bool true) rfl (fun _ w' hc => quiet_enter (run_call2 (Go.Proofs.enters_of Tryz.func13 (by kernel_rfl) rfl) rfl rfl rfl) ((rsame_row s _ _ _ _ _ _ _ _ _ _ _ _ _ _ _ _ _ _ _ _ _ _ _ _ _ _ _ _ _ _ w' (O6.out.below hc) (Q6.out.below hc) HL.out.1 HL.out.2.1 HL.out.2.2).mono (fun e w'' h => ⟨h.1, bgo hc h.2⟩))) ?_
  try simp only [Act.put, List.getElem_toArray, List.getElem_cons_zero, List.getElem_cons_succ, List.setIfInBounds_toArray, List.set_cons_zero, List.set_cons_succ]
  refine wpQuiet_do (v := .bool (true && true)) rfl (fun w' hc => quiet_value (run_pk rfl rfl rfl)) ?_
  try simp only [Act.put, List.getElem_toArray, List.getElem_cons_zero, List.getElem_cons_succ, List.setIfInBounds_toArray, List.set_cons_zero, List.set_cons_succ]
  refine wpQuiet_do (v := .bool true) rfl (fun w' hc => quiet_value (run_mv rfl rfl)) ?_
  try simp only [Act.put, List.getElem_toArray, List.getElem_cons_zero, List.getElem_cons_succ, List.setIfInBounds_toArray, List.set_cons_zero, List.set_cons_succ]
  refine wpQuiet_if (p := true) (v := .agg #[.int .i64 k, .int .i64 S, .int .i64 D, .int .u64 y]) rfl (fun _ w' hc => quiet_value (run_part rfl rfl (R6.out.go hc) Tryz.underlying24 rfl infPm rfl)) ?_
  try simp only [Act.put, List.getElem_toArray, List.getElem_cons_zero, List.getElem_cons_succ, List.setIfInBounds_toArray, List.set_cons_zero, List.set_cons_succ]
  refine wpQuiet_if (p := true) (v := .int .i64 E) rfl (fun _ w' hc => quiet_enter (run_call1 (Go.Proofs.enters_of Tryz.func14 (by kernel_rfl) rfl) rfl rfl) ((HV.out w').mono (fun e w'' h => ⟨h.1, bgo hc h.2⟩))) ?_
  try simp only [Act.put, List.getElem_toArray, List.getElem_cons_zero, List.getElem_cons_succ, List.setIfInBounds_toArray, List.set_cons_zero, List.set_cons_succ]
  refine wpQuiet_if (p := true) (v := .agg #[.int .i64 k, .int .i64 S, .int .i64 D, .int .u64 y]) rfl (fun _ w' hc => quiet_value (run_part rfl rfl (R6.out.go hc) Tryz.underlying24 rfl infPm rfl)) ?_
  try simp only [Act.put, List.getElem_toArray, List.getElem_cons_zero, List.getElem_cons_succ, List.setIfInBounds_toArray, List.set_cons_zero, List.set_cons_succ]
  refine wpQuiet_if (p := true) (v := .int .i64 E) rfl (fun _ w' hc => quiet_enter (run_call1 (Go.Proofs.enters_of Tryz.func15 (by kernel_rfl) rfl) rfl rfl) ((HW.out w').mono (fun e w'' h => ⟨h.1, bgo hc h.2⟩))) ?_
  try simp only [Act.put, List.getElem_toArray, List.getElem_cons_zero, List.getElem_cons_succ, List.setIfInBounds_toArray, List.set_cons_zero, List.set_cons_succ]
  refine wpQuiet_if (p := true) (v := .bool true) rfl (fun _ w' hc => quiet_value (eqEr rfl rfl rfl)) ?_
  try simp only [Act.put, List.getElem_toArray, List.getElem_cons_zero, List.getElem_cons_succ, List.setIfInBounds_toArray, List.set_cons_zero, List.set_cons_succ]
  refine wpQuiet_do (v := .bool (true && true)) rfl (fun w' hc => quiet_value (run_pk rfl rfl rfl)) ?_
  try simp only [Act.put, List.getElem_toArray, List.getElem_cons_zero, List.getElem_cons_succ, List.setIfInBounds_toArray, List.set_cons_zero, List.set_cons_succ]
  refine wpQuiet_do (v := .bool true) rfl (fun w' hc => quiet_value (run_mv rfl rfl)) ?_
  try simp only [Act.put, List.getElem_toArray, List.getElem_cons_zero, List.getElem_cons_succ, List.setIfInBounds_toArray, List.set_cons_zero, List.set_cons_succ]
  refine wpQuiet_if (p := true) (v := .bool true) rfl (fun _ w' hc => quiet_enter (run_call0 (Go.Proofs.enters_of Tryz.func16 (by kernel_rfl) rfl) rfl) ((H9.out w').mono (fun e w'' h => ⟨h.1, bgo hc h.2⟩))) ?_
  try simp only [Act.put, List.getElem_toArray, List.getElem_cons_zero, List.getElem_cons_succ, List.setIfInBounds_toArray, List.set_cons_zero, List.set_cons_succ]
  refine wpQuiet_do (v := .bool (true && true)) rfl (fun w' hc => quiet_value (run_pk rfl rfl rfl)) ?_
  try simp only [Act.put, List.getElem_toArray, List.getElem_cons_zero, List.getElem_cons_succ, List.setIfInBounds_toArray, List.set_cons_zero, List.set_cons_succ]
  refine wpQuiet_do (v := .bool true) rfl (fun w' hc => quiet_value (run_as rfl rfl)) ?_
  try simp only [Act.put, List.getElem_toArray, List.getElem_cons_zero, List.getElem_cons_succ, List.setIfInBounds_toArray, List.set_cons_zero, List.set_cons_succ]
  refine wpQuiet_nil ?_
  intro w7 hw7
  have B7 := Lib.hid (bgo B6.out hw7)
  refine hK _ _ ?_
  clear hK hw7
  refine wp_ret ?_
  go_ret
  exact ⟨rfl, B7.out⟩
end Go.Proofs.YtcndobdbjillpaaGreatDoor
