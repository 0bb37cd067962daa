/- SkV, RowS: in one text. -/
import Derived.Test.YtjibbnknliamkaaGreatDoorPg20
import Derived.Test.YtjibbnknliamkaaGreatDoorPg14
namespace Go.Proofs.YtjibbnknliamkaaGreatDoor
open Go.RowKit
set_option linter.unusedVariables false
set_option linter.unusedSimpArgs false
/-- Do the parameters fit the field, and is nothing else in use? -/
def fitB (s : SK) : Bool := decide (fpS s = s.S) && decide (fpD s = s.D) && decide (fpX s = s.x)
/-- The error of a sketch. -/
def valK (s : SK) : Int := if prmE s.k s.S s.D s.x ≠ 0 then prmE s.k s.S s.D s.x else if valF s ≠ 0 then valF s else if fitB s = true ∧ unuB (woK s) = true then 0 else 18
theorem unuWo_row (s : SK) (a1 : Option Addr) (c1 : Nat) (a2 : Option Addr) (c2 : Nat) (a3 : Option Addr) (c3 : Nat) (a4 : Option Addr) (c4 : Nat) (a5 : Option Addr) (c5 : Nat) (w : World) :
    Calls Tryz.prog 66 #[.agg (woA s (.slice a1 s.c.L.length c1) (.slice a2 s.l.L.length c2) (.slice a3 s.t.L.length c3) (.slice a4 s.f.L.length c4) (.slice a5 s.r.L.length c5))] w fun e w' => e = .returned (.bool (unuB (woK s))) ∧ Below w.heap.size w w' := by
  have h : woA s (.slice a1 s.c.L.length c1) (.slice a2 s.l.L.length c2) (.slice a3 s.t.L.length c3) (.slice a4 s.f.L.length c4) (.slice a5 s.r.L.length c5) = skA (woK s) (.slice (if s.k = 2 then none else a1) (woK s).c.L.length (if s.k = 2 then 0 else c1)) (.slice (if s.k = 3 then none else a2) (woK s).l.L.length (if s.k = 3 then 0 else c2)) (.slice (if s.k = 4 then none else a3) (woK s).t.L.length (if s.k = 4 then 0 else c3)) (.slice (if s.k = 5 then none else a4) (woK s).f.L.length (if s.k = 5 then 0 else c4)) (.slice (if s.k = 6 then none else a5) (woK s).r.L.length (if s.k = 6 then 0 else c5)) := by
    unfold woA
    congr 1
    · by_cases h : s.k = 2
      · simp only [if_pos h, woK]; rfl
      · simp only [if_neg h, woK]
    · by_cases h : s.k = 3
      · simp only [if_pos h, woK]; rfl
      · simp only [if_neg h, woK]
    · by_cases h : s.k = 4
      · simp only [if_pos h, woK]; rfl
      · simp only [if_neg h, woK]
    · by_cases h : s.k = 5
      · simp only [if_pos h, woK]; rfl
      · simp only [if_neg h, woK]
    · by_cases h : s.k = 6
      · simp only [if_pos h, woK]; rfl
      · simp only [if_neg h, woK]
  rw [h]
  exact unu_row (woK s) _ _ _ _ _ _ _ _ _ _ w
set_option maxRecDepth 100000 in
set_option maxHeartbeats 2000000 in
theorem val_row (s : SK) (a1 : Option Addr) (c1 : Nat) (a2 : Option Addr) (c2 : Nat) (a3 : Option Addr) (c3 : Nat) (a4 : Option Addr) (c4 : Nat) (a5 : Option Addr) (c5 : Nat) (w : World) (hw : WfK s) (h : RowsK s (.slice a1 s.c.L.length c1) (.slice a2 s.l.L.length c2) (.slice a3 s.t.L.length c3) (.slice a4 s.f.L.length c4) (.slice a5 s.r.L.length c5) w) :
    Calls Tryz.prog 34 #[.agg (skA s (.slice a1 s.c.L.length c1) (.slice a2 s.l.L.length c2) (.slice a3 s.t.L.length c3) (.slice a4 s.f.L.length c4) (.slice a5 s.r.L.length c5))] w fun e w' => e = .returned (.int .i64 (valK s)) ∧ Below w.heap.size w w' := by
  have HP := Lib.hid (fun w => vp_any s.k s.S s.D s.x w hw.S hw.D)
  have HF := Lib.hid (fun w' (hb : Below w.heap.size w w') => vf_row s a1 s.c.L.length c1 a2 s.l.L.length c2 a3 s.t.L.length c3 a4 s.f.L.length c4 a5 s.r.L.length c5 w' hw (h.below hb))
  have HQ := Lib.hid (fun w => fp_row s (.slice a1 s.c.L.length c1) (.slice a2 s.l.L.length c2) (.slice a3 s.t.L.length c3) (.slice a4 s.f.L.length c4) (.slice a5 s.r.L.length c5) w)
  have HW := Lib.hid (fun w => wo_row s a1 s.c.L.length c1 a2 s.l.L.length c2 a3 s.t.L.length c3 a4 s.f.L.length c4 a5 s.r.L.length c5 w)
  have HU := Lib.hid (fun w => unuWo_row s a1 c1 a2 c2 a3 c3 a4 c4 a5 c5 w)
  have HM : Hid ((decide (fpS s = s.S) && decide (fpD s = s.D) && decide (fpX s = s.x)) = fitB s) := Lib.hid rfl
  have HB : Hid ((skA s (.slice a1 s.c.L.length c1) (.slice a2 s.l.L.length c2) (.slice a3 s.t.L.length c3) (.slice a4 s.f.L.length c4) (.slice a5 s.r.L.length c5)).extract 0 (0 + #[Value.int .i64 s.k, .int .i64 s.S, .int .i64 s.D, .int .u64 s.x].size) = #[.int .i64 s.k, .int .i64 s.S, .int .i64 s.D, .int .u64 s.x]) := Lib.hid (by kernel_rfl)
  have HB2 : Hid ((skA s (.slice a1 s.c.L.length c1) (.slice a2 s.l.L.length c2) (.slice a3 s.t.L.length c3) (.slice a4 s.f.L.length c4) (.slice a5 s.r.L.length c5)).extract 0 (0 + (skA s (.slice a1 s.c.L.length c1) (.slice a2 s.l.L.length c2) (.slice a3 s.t.L.length c3) (.slice a4 s.f.L.length c4) (.slice a5 s.r.L.length c5)).size) = skA s (.slice a1 s.c.L.length c1) (.slice a2 s.l.L.length c2) (.slice a3 s.t.L.length c3) (.slice a4 s.f.L.length c4) (.slice a5 s.r.L.length c5)) := Lib.hid (by kernel_rfl)
  have HS : Hid ((skA s (.slice a1 s.c.L.length c1) (.slice a2 s.l.L.length c2) (.slice a3 s.t.L.length c3) (.slice a4 s.f.L.length c4) (.slice a5 s.r.L.length c5)).size = 29) := Lib.hid rfl
  generalize hVK : valK s = VK
  unfold valK at hVK
  generalize prmE s.k s.S s.D s.x = E at *
  generalize valF s = F at *
  generalize unuB (woK s) = U at *
  generalize woA s (.slice a1 s.c.L.length c1) (.slice a2 s.l.L.length c2) (.slice a3 s.t.L.length c3) (.slice a4 s.f.L.length c4) (.slice a5 s.r.L.length c5) = WA at *
  generalize skA s (.slice a1 s.c.L.length c1) (.slice a2 s.l.L.length c2) (.slice a3 s.t.L.length c3) (.slice a4 s.f.L.length c4) (.slice a5 s.r.L.length c5) = SA at *
  generalize fitB s = M at *
  have HV := Lib.hid hVK
  clear hVK hw h
  go_enter Tryz.func34, Tryz.ntmps34
  go_upto_region 1 with (fail)
  refine wp_genW (fun w1 => RowAt w.heap.size SA w1 ∧ Below w.heap.size w w1) ⟨RowAt.new _ _ _, b1 _⟩ ?_
  rintro w1 ⟨r1, hb⟩
  have R1 := Lib.hid r1
  have B1 := Lib.hid hb
  clear r1 hb
  by_cases hE : E = 0
  · subst hE
    by_cases hF : F = 0
    · subst hF
      go_upto_region 7 with (first
        | (refine ldPm (B := #[.int .i64 s.k, .int .i64 s.S, .int .i64 s.D, .int .u64 s.x]) rfl rfl rfl R1.out rfl HB.out ?_)
        | (go_at_call 63; (with_reducible refine (HP.out _).mono ?_); rintro e w2 ⟨rfl, hb2⟩; have R2 := Lib.hid (R1.out.go hb2); have B2 := Lib.hid (bgo B1.out hb2); clear hb2 R1 B1)
        | (refine ldSk (B := SA) rfl rfl rfl R2.out HS.out HB2.out ?_)
        | (go_at_call 64; (with_reducible refine (HF.out _ B2.out).mono ?_); rintro e w3 ⟨rfl, hb3⟩; have R3 := Lib.hid (R2.out.go hb3); have B3 := Lib.hid (bgo B2.out hb3); clear hb3 R2 B2))
      rename_i K hK
      refine wp_region_quiet (C := fun w' => Below w3.heap.size w3 w') (by kernel_rfl) (by kernel_rfl) ⟨rfl, rfl, rfl, Nat.le_refl _, fun _ _ => rfl⟩ ?_
      refine wpQuiet_do (v := .agg SA) rfl (fun w' hc => quiet_value (run_part rfl rfl (R3.out.go hc) Tryz.underlying48 rfl (infSk.trans (by rw [HS.out])) HB2.out)) ?_
      try simp only [Act.put, List.getElem_toArray, List.getElem_cons_zero, List.getElem_cons_succ, List.setIfInBounds_toArray, List.set_cons_zero, List.set_cons_succ]
      refine wpQuiet_do (v := .agg #[.int .i64 s.k, .int .i64 (fpS s), .int .i64 (fpD s), .int .u64 (fpX s)]) rfl (fun w' hc => quiet_enter (run_call1 (Go.Proofs.enters_of Tryz.func65 (by kernel_rfl) rfl) rfl rfl) ((HQ.out w').mono (fun e w'' h => ⟨h.1, bgo hc h.2⟩))) ?_
      try simp only [Act.put, List.getElem_toArray, List.getElem_cons_zero, List.getElem_cons_succ, List.setIfInBounds_toArray, List.set_cons_zero, List.set_cons_succ]
      refine wpQuiet_do (v := .pointer (some ⟨w.heap.size, 0, none⟩)) rfl (fun w' hc => quiet_value (faSk0 rfl rfl)) ?_
      try simp only [Act.put, List.getElem_toArray, List.getElem_cons_zero, List.getElem_cons_succ, List.setIfInBounds_toArray, List.set_cons_zero, List.set_cons_succ]
      refine wpQuiet_do (v := .agg #[.int .i64 s.k, .int .i64 s.S, .int .i64 s.D, .int .u64 s.x]) rfl (fun w' hc => quiet_value (run_part rfl rfl (R3.out.go hc) Tryz.underlying32 rfl infPm HB.out)) ?_
      try simp only [Act.put, List.getElem_toArray, List.getElem_cons_zero, List.getElem_cons_succ, List.setIfInBounds_toArray, List.set_cons_zero, List.set_cons_succ]
      refine wpQuiet_do (v := .bool (!M)) rfl (fun w' hc => quiet_value ((neqPm rfl rfl rfl).trans (by rw [← HM.out]; simp))) ?_
      try simp only [Act.put, List.getElem_toArray, List.getElem_cons_zero, List.getElem_cons_succ, List.setIfInBounds_toArray, List.set_cons_zero, List.set_cons_succ]
      refine wpQuiet_do (v := .bool (!M)) rfl (fun w' hc => quiet_value (run_mv rfl rfl)) ?_
      try simp only [Act.put, List.getElem_toArray, List.getElem_cons_zero, List.getElem_cons_succ, List.setIfInBounds_toArray, List.set_cons_zero, List.set_cons_succ]
      cases M with
      | false =>
        refine wpQuiet_if (p := false) (v := undef) rfl (fun h => by cases h) ?_
        try simp only [Act.put, List.getElem_toArray, List.getElem_cons_zero, List.getElem_cons_succ, List.setIfInBounds_toArray, List.set_cons_zero, List.set_cons_succ]
        refine wpQuiet_if (p := false) (v := undef) rfl (fun h => by cases h) ?_
        try simp only [Act.put, List.getElem_toArray, List.getElem_cons_zero, List.getElem_cons_succ, List.setIfInBounds_toArray, List.set_cons_zero, List.set_cons_succ]
        refine wpQuiet_if (p := false) (v := undef) rfl (fun h => by cases h) ?_
        try simp only [Act.put, List.getElem_toArray, List.getElem_cons_zero, List.getElem_cons_succ, List.setIfInBounds_toArray, List.set_cons_zero, List.set_cons_succ]
        refine wpQuiet_if (p := false) (v := undef) rfl (fun h => by cases h) ?_
        try simp only [Act.put, List.getElem_toArray, List.getElem_cons_zero, List.getElem_cons_succ, List.setIfInBounds_toArray, List.set_cons_zero, List.set_cons_succ]
        refine wpQuiet_do (v := .bool true) rfl (fun w' hc => quiet_value (run_pkT (p := true) rfl rfl rfl)) ?_
        try simp only [Act.put, List.getElem_toArray, List.getElem_cons_zero, List.getElem_cons_succ, List.setIfInBounds_toArray, List.set_cons_zero, List.set_cons_succ]
        refine wpQuiet_nil ?_
        intro w4 hw4
        have B4 := Lib.hid (bgo B3.out hw4)
        refine hK _ _ ?_
        clear hK hw4 R3 B3
        have hv := HV.out
        simp at hv
        subst hv
        try simp only [Act.put, List.getElem_toArray, List.getElem_cons_zero, List.getElem_cons_succ, List.setIfInBounds_toArray, List.set_cons_zero, List.set_cons_succ]
        go_wp2
        go_ret
        exact ⟨rfl, B4.out⟩
      | true =>
        refine wpQuiet_if (p := true) (v := .agg SA) rfl (fun _ w' hc => quiet_value (run_part rfl rfl (R3.out.go hc) Tryz.underlying48 rfl (infSk.trans (by rw [HS.out])) HB2.out)) ?_
        try simp only [Act.put, List.getElem_toArray, List.getElem_cons_zero, List.getElem_cons_succ, List.setIfInBounds_toArray, List.set_cons_zero, List.set_cons_succ]
        refine wpQuiet_if (p := true) (v := .agg WA) rfl (fun _ w' hc => quiet_enter (run_call1 (Go.Proofs.enters_of Tryz.func67 (by kernel_rfl) rfl) rfl rfl) ((HW.out w').mono (fun e w'' h => ⟨h.1, bgo hc h.2⟩))) ?_
        try simp only [Act.put, List.getElem_toArray, List.getElem_cons_zero, List.getElem_cons_succ, List.setIfInBounds_toArray, List.set_cons_zero, List.set_cons_succ]
        refine wpQuiet_if (p := true) (v := .bool U) rfl (fun _ w' hc => quiet_enter (run_call1 (Go.Proofs.enters_of Tryz.func66 (by kernel_rfl) rfl) rfl rfl) ((HU.out w').mono (fun e w'' h => ⟨h.1, bgo hc h.2⟩))) ?_
        try simp only [Act.put, List.getElem_toArray, List.getElem_cons_zero, List.getElem_cons_succ, List.setIfInBounds_toArray, List.set_cons_zero, List.set_cons_succ]
        refine wpQuiet_if (p := true) (v := .bool (!U)) rfl (fun _ w' hc => quiet_value (not_b rfl rfl)) ?_
        try simp only [Act.put, List.getElem_toArray, List.getElem_cons_zero, List.getElem_cons_succ, List.setIfInBounds_toArray, List.set_cons_zero, List.set_cons_succ]
        refine wpQuiet_do (v := .bool (!U)) rfl (fun w' hc => quiet_value (run_pkF rfl rfl rfl)) ?_
        try simp only [Act.put, List.getElem_toArray, List.getElem_cons_zero, List.getElem_cons_succ, List.setIfInBounds_toArray, List.set_cons_zero, List.set_cons_succ]
        refine wpQuiet_nil ?_
        intro w4 hw4
        have B4 := Lib.hid (bgo B3.out hw4)
        refine hK _ _ ?_
        clear hK hw4 R3 B3
        cases U with
        | true =>
          have hv := HV.out
          simp at hv
          subst hv
          try simp only [Act.put, List.getElem_toArray, List.getElem_cons_zero, List.getElem_cons_succ, List.setIfInBounds_toArray, List.set_cons_zero, List.set_cons_succ]
          go_wp2
          go_ret
          exact ⟨rfl, B4.out⟩
        | false =>
          have hv := HV.out
          simp at hv
          subst hv
          try simp only [Act.put, List.getElem_toArray, List.getElem_cons_zero, List.getElem_cons_succ, List.setIfInBounds_toArray, List.set_cons_zero, List.set_cons_succ]
          go_wp2
          go_ret
          exact ⟨rfl, B4.out⟩
    · have hF2 : (F != 0) = true := by simp [hF]
      have hv := HV.out
      rw [if_neg (fun h => h rfl), if_pos hF] at hv
      subst hv
      clear hF
      go_wp2_with (first
        | (refine ldPm (B := #[.int .i64 s.k, .int .i64 s.S, .int .i64 s.D, .int .u64 s.x]) rfl rfl rfl R1.out rfl HB.out ?_)
        | (go_at_call 63; (with_reducible refine (HP.out _).mono ?_); rintro e w2 ⟨rfl, hb2⟩; have R2 := Lib.hid (R1.out.go hb2); have B2 := Lib.hid (bgo B1.out hb2); clear hb2 R1 B1)
        | (refine ldSk (B := SA) rfl rfl rfl R2.out HS.out HB2.out ?_)
        | (go_at_call 64; (with_reducible refine (HF.out _ B2.out).mono ?_); rintro e w3 ⟨rfl, hb3⟩; have B3 := Lib.hid (bgo B2.out hb3); clear hb3 R2 B2))
      go_ret
      exact ⟨rfl, B3.out⟩
  · have hE2 : (E != 0) = true := by simp [hE]
    have hv := HV.out
    rw [if_pos hE] at hv
    subst hv
    clear hE
    go_wp2_with (first
      | (refine ldPm (B := #[.int .i64 s.k, .int .i64 s.S, .int .i64 s.D, .int .u64 s.x]) rfl rfl rfl R1.out rfl HB.out ?_)
      | (go_at_call 63; (with_reducible refine (HP.out _).mono ?_); rintro e w2 ⟨rfl, hb2⟩; have B2 := Lib.hid (bgo B1.out hb2); clear hb2 R1 B1))
    go_ret
    exact ⟨rfl, B2.out⟩
end Go.Proofs.YtjibbnknliamkaaGreatDoor
namespace Go.Proofs.YtjibbnknliamkaaGreatDoor
open Go Go.RowKit
set_option linter.unusedVariables false
set_option linter.unusedSimpArgs false
section
variable {P : Program} {ops : Array Oper} {rest : List Oper} {o : Oper} {a : Act} {w : World} {Q : Exit → Act → World → Prop}
theorem run_put1 {T : TypeId} {p y : Operand} (ho : o.op = .store T p y) {g off : Nat} (hp : a.eval p = .pointer (some ⟨g, off, none⟩)) {A : Array Value} (h : RowAt g A w) {v : Value} (hy : a.eval y = v) (hi : (P.info? T).map (·.size) = some 1) (hc : v.cells = #[v]) (h1 : v.oneCell' = true) (hn : off < A.size) :
    (execOp a.eval o).run P w = .ok .skip (w.setCell ⟨g, off, none⟩ v) := by
  have ht := h.there (off := off) (n := 1) (by omega)
  have hst := run_storeCells_cells (P := P) g off [v] 0 w (fun j hj => by simpa using (ht j (by simpa using hj)).1) (fun j hj => by simpa using (ht j (by simpa using hj)).2) (fun u hu => by rw [List.mem_singleton.1 hu]; exact h1)
  unfold execOp
  cases hq : P.info? T with
  | none => simp [hq] at hi
  | some i =>
    have hs : i.size = 1 := by simpa [hq] using hi
    simp only [Nat.add_zero] at hst
    simp only [ho, hp, hy, Instr.storeAt, Instr.sureAddr, Sem.run_bind, Sem.run_pure, Result.andThen_ok]
    simp [storeVar, sizeOf, typeInfo, hq, hc, hs, hst, World.setCells]
theorem wp_put1 {T : TypeId} {p y : Operand} (hgd : o.guard = none) (ho : o.op = .store T p y) {g off : Nat} (hp : a.eval p = .pointer (some ⟨g, off, none⟩)) {A : Array Value} (h : RowAt g A w) {v : Value} (hy : a.eval y = v) (hi : (P.info? T).map (·.size) = some 1) (hc : v.cells = #[v]) (h1 : v.oneCell' = true) (hn : off < A.size) {A' : Array Value} (hA : A.setIfInBounds off v = A')
    (hK : ∀ w', RowAt g A' w' → Oth g w w' → wpList P ops Q rest (a.put o.dst undef) w') : wpList P ops Q (o :: rest) a w := by
  refine wpList_plain hgd fun K hK' => ?_
  unfold Oper.wp
  rw [run_put1 ho hp h hy hi hc h1 hn]
  exact hK' _ _ (hK _ (hA ▸ h.set1 off v) (oth_cell g off w v))
end
theorem infInt : (Tryz.prog.info? 3).map (·.size) = some 1 := by kernel_rfl
end Go.Proofs.YtjibbnknliamkaaGreatDoor
