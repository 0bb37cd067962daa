/- Unu: in one text. -/
import Derived.Test.YtjibbnknliamkaaGreatDoorPg12
import Derived.Test.YtjibbnknliamkaaGreatDoorPg14
namespace Go.Proofs.YtjibbnknliamkaaGreatDoor
open Go.RowKit
set_option linter.unusedVariables false
set_option linter.unusedSimpArgs false
/-- Are the fields of all kinds zero? -/
def unuB (s : SK) : Bool :=
  (((((((((((((((((((((((decide (s.tT = 0) && decide (s.tI = 0) && !s.tF) && decide (s.c.D = 0)) && decide (s.c.S = 0)) && decide (s.c.x = 0)) && decide (s.c.L.length = 0)) && !s.c.s) && decide (s.l.P = 0)) && decide (s.l.x = 0)) && decide (s.l.L.length = 0)) && decide (s.t.S = 0)) && decide (s.t.T = 0)) && decide (s.t.L.length = 0)) && !s.t.s) && decide (s.f.S = 0)) && decide (s.f.T = 0)) && decide (s.f.K = 0)) && decide (s.f.L.length = 0)) && !s.f.s) && decide (s.r.S = 0)) && decide (s.r.T = 0)) && decide (s.r.K = 0)) && decide (s.r.L.length = 0)) && !s.r.s)
set_option maxRecDepth 100000 in
set_option maxHeartbeats 8000000 in
theorem unu_row (s : SK) (a1 a2 a3 a4 a5 : Option Addr) (c1 c2 c3 c4 c5 : Nat) (w : World) :
    Calls Tryz.prog 66 #[.agg (skA s (.slice a1 s.c.L.length c1) (.slice a2 s.l.L.length c2) (.slice a3 s.t.L.length c3) (.slice a4 s.f.L.length c4) (.slice a5 s.r.L.length c5))] w fun e w' => e = .returned (.bool (unuB s)) ∧ Below w.heap.size w w' := by
  go_enter Tryz.func66, Tryz.ntmps66
  go_upto_region 1 with (fail)
  rename_i Q' K hK
  refine wp_gen (fun a w1 => (a.tmps.size = 137 ∧ a.defers = []) ∧ a.eval (.tmp 1) = .pointer (some ⟨w.heap.size, 0, none⟩) ∧ RowAt w.heap.size (skA s (.slice a1 s.c.L.length c1) (.slice a2 s.l.L.length c2) (.slice a3 s.t.L.length c3) (.slice a4 s.f.L.length c4) (.slice a5 s.r.L.length c5)) w1 ∧ Below w.heap.size w w1) ⟨⟨rfl, rfl⟩, rfl, RowAt.new _ _ _, b1 _⟩ ?_
  rintro a w1 ⟨hz, h1, hr, hb⟩
  refine wp_region_held (S := RowAt w.heap.size (skA s (.slice a1 s.c.L.length c1) (.slice a2 s.l.L.length c2) (.slice a3 s.t.L.length c3) (.slice a4 s.f.L.length c4) (.slice a5 s.r.L.length c5))) (by kernel_rfl) ?_
  have hr0 : RowAt w.heap.size (skA s (.slice a1 s.c.L.length c1) (.slice a2 s.l.L.length c2) (.slice a3 s.t.L.length c3) (.slice a4 s.f.L.length c4) (.slice a5 s.r.L.length c5)) { w1 with drawn := w1.drawn + 1 } := hr
  have hb0 : Below w.heap.size w { w1 with drawn := w1.drawn + 1 } := ⟨hb.os, hb.tape, hb.output, hb.size, hb.block⟩
  clear hr hb
  generalize ({ w1 with drawn := w1.drawn + 1 } : World) = w2 at *
  refine takeH (i := 0) (d := 8) (v := .pointer (some ⟨w.heap.size, 7, none⟩)) rfl (by kernel_rfl) (by kernel_rfl) (by kernel_rfl) rfl (by rw [hz.1]; decide) (fun _ _ _ h => h) rfl (fun _ _ => (faSk2 rfl h1).trans (by rw [Nat.zero_add])) hr0 ?_
  intro b hzb hnb h8
  replace h1 := (hnb 1 (by decide)).trans h1
  replace hz := And.intro (hzb.1.trans hz.1) (hzb.2.trans hz.2)
  clear hzb hnb
  refine takeH (i := 1) (d := 9) (v := .agg #[.int .i64 s.c.D, .int .i64 s.c.S, .int .u64 s.c.x, .slice a1 s.c.L.length c1, .bool s.c.s]) rfl (by kernel_rfl) (by kernel_rfl) (by kernel_rfl) rfl (by rw [hz.1]; decide) (fun _ _ _ h => h) rfl (fun _ hs => run_part rfl h8 hs Tryz.underlying36 rfl infCm rfl) hr0 ?_
  intro b hzb hnb h9
  replace h1 := (hnb 1 (by decide)).trans h1
  replace h8 := (hnb 8 (by decide)).trans h8
  replace hz := And.intro (hzb.1.trans hz.1) (hzb.2.trans hz.2)
  clear hzb hnb
  refine takeH (i := 2) (d := 10) (v := .pointer (some ⟨w.heap.size, 12, none⟩)) rfl (by kernel_rfl) (by kernel_rfl) (by kernel_rfl) rfl (by rw [hz.1]; decide) (fun _ _ _ h => h) rfl (fun _ _ => (faSk3 rfl h1).trans (by rw [Nat.zero_add])) hr0 ?_
  intro b hzb hnb h10
  replace h1 := (hnb 1 (by decide)).trans h1
  replace h8 := (hnb 8 (by decide)).trans h8
  replace h9 := (hnb 9 (by decide)).trans h9
  replace hz := And.intro (hzb.1.trans hz.1) (hzb.2.trans hz.2)
  clear hzb hnb
  refine takeH (i := 3) (d := 11) (v := .agg #[.int .i64 s.l.P, .int .u64 s.l.x, .slice a2 s.l.L.length c2]) rfl (by kernel_rfl) (by kernel_rfl) (by kernel_rfl) rfl (by rw [hz.1]; decide) (fun _ _ _ h => h) rfl (fun _ hs => run_part rfl h10 hs Tryz.underlying38 rfl infLl rfl) hr0 ?_
  intro b hzb hnb h11
  replace h1 := (hnb 1 (by decide)).trans h1
  replace h8 := (hnb 8 (by decide)).trans h8
  replace h9 := (hnb 9 (by decide)).trans h9
  replace h10 := (hnb 10 (by decide)).trans h10
  replace hz := And.intro (hzb.1.trans hz.1) (hzb.2.trans hz.2)
  clear hzb hnb
  refine takeH (i := 4) (d := 12) (v := .pointer (some ⟨w.heap.size, 15, none⟩)) rfl (by kernel_rfl) (by kernel_rfl) (by kernel_rfl) rfl (by rw [hz.1]; decide) (fun _ _ _ h => h) rfl (fun _ _ => (faSk4 rfl h1).trans (by rw [Nat.zero_add])) hr0 ?_
  intro b hzb hnb h12
  replace h1 := (hnb 1 (by decide)).trans h1
  replace h8 := (hnb 8 (by decide)).trans h8
  replace h9 := (hnb 9 (by decide)).trans h9
  replace h10 := (hnb 10 (by decide)).trans h10
  replace h11 := (hnb 11 (by decide)).trans h11
  replace hz := And.intro (hzb.1.trans hz.1) (hzb.2.trans hz.2)
  clear hzb hnb
  refine takeH (i := 5) (d := 13) (v := .agg #[.int .i64 s.t.S, .int .i64 s.t.T, .slice a3 s.t.L.length c3, .bool s.t.s]) rfl (by kernel_rfl) (by kernel_rfl) (by kernel_rfl) rfl (by rw [hz.1]; decide) (fun _ _ _ h => h) rfl (fun _ hs => run_part rfl h12 hs Tryz.underlying41 rfl infTo rfl) hr0 ?_
  intro b hzb hnb h13
  replace h1 := (hnb 1 (by decide)).trans h1
  replace h8 := (hnb 8 (by decide)).trans h8
  replace h9 := (hnb 9 (by decide)).trans h9
  replace h10 := (hnb 10 (by decide)).trans h10
  replace h11 := (hnb 11 (by decide)).trans h11
  replace h12 := (hnb 12 (by decide)).trans h12
  replace hz := And.intro (hzb.1.trans hz.1) (hzb.2.trans hz.2)
  clear hzb hnb
  refine takeH (i := 6) (d := 14) (v := .pointer (some ⟨w.heap.size, 19, none⟩)) rfl (by kernel_rfl) (by kernel_rfl) (by kernel_rfl) rfl (by rw [hz.1]; decide) (fun _ _ _ h => h) rfl (fun _ _ => (faSk5 rfl h1).trans (by rw [Nat.zero_add])) hr0 ?_
  intro b hzb hnb h14
  replace h1 := (hnb 1 (by decide)).trans h1
  replace h8 := (hnb 8 (by decide)).trans h8
  replace h9 := (hnb 9 (by decide)).trans h9
  replace h10 := (hnb 10 (by decide)).trans h10
  replace h11 := (hnb 11 (by decide)).trans h11
  replace h12 := (hnb 12 (by decide)).trans h12
  replace h13 := (hnb 13 (by decide)).trans h13
  replace hz := And.intro (hzb.1.trans hz.1) (hzb.2.trans hz.2)
  clear hzb hnb
  refine takeH (i := 7) (d := 15) (v := .agg #[.int .i64 s.f.S, .int .i64 s.f.T, .int .i64 s.f.K, .slice a4 s.f.L.length c4, .bool s.f.s]) rfl (by kernel_rfl) (by kernel_rfl) (by kernel_rfl) rfl (by rw [hz.1]; decide) (fun _ _ _ h => h) rfl (fun _ hs => run_part rfl h14 hs Tryz.underlying43 rfl infFq rfl) hr0 ?_
  intro b hzb hnb h15
  replace h1 := (hnb 1 (by decide)).trans h1
  replace h8 := (hnb 8 (by decide)).trans h8
  replace h9 := (hnb 9 (by decide)).trans h9
  replace h10 := (hnb 10 (by decide)).trans h10
  replace h11 := (hnb 11 (by decide)).trans h11
  replace h12 := (hnb 12 (by decide)).trans h12
  replace h13 := (hnb 13 (by decide)).trans h13
  replace h14 := (hnb 14 (by decide)).trans h14
  replace hz := And.intro (hzb.1.trans hz.1) (hzb.2.trans hz.2)
  clear hzb hnb
  refine takeH (i := 8) (d := 16) (v := .pointer (some ⟨w.heap.size, 24, none⟩)) rfl (by kernel_rfl) (by kernel_rfl) (by kernel_rfl) rfl (by rw [hz.1]; decide) (fun _ _ _ h => h) rfl (fun _ _ => (faSk6 rfl h1).trans (by rw [Nat.zero_add])) hr0 ?_
  intro b hzb hnb h16
  replace h1 := (hnb 1 (by decide)).trans h1
  replace h8 := (hnb 8 (by decide)).trans h8
  replace h9 := (hnb 9 (by decide)).trans h9
  replace h10 := (hnb 10 (by decide)).trans h10
  replace h11 := (hnb 11 (by decide)).trans h11
  replace h12 := (hnb 12 (by decide)).trans h12
  replace h13 := (hnb 13 (by decide)).trans h13
  replace h14 := (hnb 14 (by decide)).trans h14
  replace h15 := (hnb 15 (by decide)).trans h15
  replace hz := And.intro (hzb.1.trans hz.1) (hzb.2.trans hz.2)
  clear hzb hnb
  refine takeH (i := 9) (d := 17) (v := .agg #[.int .i64 s.r.S, .int .i64 s.r.T, .int .i64 s.r.K, .slice a5 s.r.L.length c5, .bool s.r.s]) rfl (by kernel_rfl) (by kernel_rfl) (by kernel_rfl) rfl (by rw [hz.1]; decide) (fun _ _ _ h => h) rfl (fun _ hs => run_part rfl h16 hs Tryz.underlying46 rfl infRk rfl) hr0 ?_
  intro b hzb hnb h17
  replace h1 := (hnb 1 (by decide)).trans h1
  replace h8 := (hnb 8 (by decide)).trans h8
  replace h9 := (hnb 9 (by decide)).trans h9
  replace h10 := (hnb 10 (by decide)).trans h10
  replace h11 := (hnb 11 (by decide)).trans h11
  replace h12 := (hnb 12 (by decide)).trans h12
  replace h13 := (hnb 13 (by decide)).trans h13
  replace h14 := (hnb 14 (by decide)).trans h14
  replace h15 := (hnb 15 (by decide)).trans h15
  replace h16 := (hnb 16 (by decide)).trans h16
  replace hz := And.intro (hzb.1.trans hz.1) (hzb.2.trans hz.2)
  clear hzb hnb
  have hD : ∀ i ∈ [10, 11, 12, 13, 14], ∀ j ∈ [10, 11, 12, 13, 14], ([0, 9, 0, 11, 0, 13, 0, 15, 0, 17, 3, 4, 5, 6, 7] : List Nat).getD i 0 = ([0, 9, 0, 11, 0, 13, 0, 15, 0, 17, 3, 4, 5, 6, 7] : List Nat).getD j 0 → i = j := by decide
  refine wpAnyH_begin (fuel := 5) (rs := [10, 11, 12, 13, 14]) (D := fun i => ([0, 9, 0, 11, 0, 13, 0, 15, 0, 17, 3, 4, 5, 6, 7] : List Nat).getD i 0)
    (M := fun i => ([none, none, none, none, none, none, none, none, none, none, some (36, zcCm), some (38, zcLl), some (41, zcTo), some (43, zcFq), some (46, zcRk)] : List (Option (TypeId × Array Value))).getD i none)
    (v := fun _ => undef) hD (by decide) ?_ (fun _ hbw => hr0.go hbw) (by kernel_rfl) (by kernel_rfl) ?_
  · intro i hi
    simp only [List.mem_cons, List.not_mem_nil, or_false] at hi
    rcases hi with rfl | rfl | rfl | rfl | rfl
    · exact ⟨_, rfl, rfl, rfl, depB_spec (by kernel_rfl), fun a' w' => alCm rfl⟩
    · exact ⟨_, rfl, rfl, rfl, depB_spec (by kernel_rfl), fun a' w' => alLl rfl⟩
    · exact ⟨_, rfl, rfl, rfl, depB_spec (by kernel_rfl), fun a' w' => alTo rfl⟩
    · exact ⟨_, rfl, rfl, rfl, depB_spec (by kernel_rfl), fun a' w' => alFq rfl⟩
    · exact ⟨_, rfl, rfl, rfl, depB_spec (by kernel_rfl), fun a' w' => alRk rfl⟩
  intro G w3 hG hne hb3
  have R3 : RowAt (G 10) zcCm w3 := ⟨_, (hG 10 (by decide) _ _ rfl).2⟩
  have l3 := (hG 10 (by decide) _ _ rfl).1
  have R4 : RowAt (G 11) zcLl w3 := ⟨_, (hG 11 (by decide) _ _ rfl).2⟩
  have l4 := (hG 11 (by decide) _ _ rfl).1
  have R5 : RowAt (G 12) zcTo w3 := ⟨_, (hG 12 (by decide) _ _ rfl).2⟩
  have l5 := (hG 12 (by decide) _ _ rfl).1
  have R6 : RowAt (G 13) zcFq w3 := ⟨_, (hG 13 (by decide) _ _ rfl).2⟩
  have l6 := (hG 13 (by decide) _ _ rfl).1
  have R7 : RowAt (G 14) zcRk w3 := ⟨_, (hG 14 (by decide) _ _ rfl).2⟩
  have l7 := (hG 14 (by decide) _ _ rfl).1
  have n34 := hne 10 (by decide) 11 (by decide) (by simp) (by simp) (by decide)
  have n35 := hne 10 (by decide) 12 (by decide) (by simp) (by simp) (by decide)
  have n36 := hne 10 (by decide) 13 (by decide) (by simp) (by simp) (by decide)
  have n37 := hne 10 (by decide) 14 (by decide) (by simp) (by simp) (by decide)
  have n45 := hne 11 (by decide) 12 (by decide) (by simp) (by simp) (by decide)
  have n46 := hne 11 (by decide) 13 (by decide) (by simp) (by simp) (by decide)
  have n47 := hne 11 (by decide) 14 (by decide) (by simp) (by simp) (by decide)
  have n56 := hne 12 (by decide) 13 (by decide) (by simp) (by simp) (by decide)
  have n57 := hne 12 (by decide) 14 (by decide) (by simp) (by simp) (by decide)
  have n67 := hne 13 (by decide) 14 (by decide) (by simp) (by simp) (by decide)
  refine wpAnyH_gen (fun a' => (a'.tmps.size = 137 ∧ a'.defers = []) ∧ a'.eval (.tmp 1) = .pointer (some ⟨w.heap.size, 0, none⟩) ∧ a'.eval (.tmp 3) = .pointer (some ⟨G 10, 0, none⟩) ∧ a'.eval (.tmp 9) = .agg #[.int .i64 s.c.D, .int .i64 s.c.S, .int .u64 s.c.x, .slice a1 s.c.L.length c1, .bool s.c.s] ∧ a'.eval (.tmp 4) = .pointer (some ⟨G 11, 0, none⟩) ∧ a'.eval (.tmp 11) = .agg #[.int .i64 s.l.P, .int .u64 s.l.x, .slice a2 s.l.L.length c2] ∧ a'.eval (.tmp 5) = .pointer (some ⟨G 12, 0, none⟩) ∧ a'.eval (.tmp 13) = .agg #[.int .i64 s.t.S, .int .i64 s.t.T, .slice a3 s.t.L.length c3, .bool s.t.s] ∧ a'.eval (.tmp 6) = .pointer (some ⟨G 13, 0, none⟩) ∧ a'.eval (.tmp 15) = .agg #[.int .i64 s.f.S, .int .i64 s.f.T, .int .i64 s.f.K, .slice a4 s.f.L.length c4, .bool s.f.s] ∧ a'.eval (.tmp 7) = .pointer (some ⟨G 14, 0, none⟩) ∧ a'.eval (.tmp 17) = .agg #[.int .i64 s.r.S, .int .i64 s.r.T, .int .i64 s.r.K, .slice a5 s.r.L.length c5, .bool s.r.s])
    ⟨⟨(allPut_size _ _).trans hz.1, (allPut_defers _ _).trans hz.2⟩, (allPut_other _ _ (by decide)).trans h1, allPut_at (k := 10) _ _ hD (by decide) (by decide) (by rw [hz.1]; decide), (allPut_other _ _ (by decide)).trans h9, allPut_at (k := 11) _ _ hD (by decide) (by decide) (by rw [hz.1]; decide), (allPut_other _ _ (by decide)).trans h11, allPut_at (k := 12) _ _ hD (by decide) (by decide) (by rw [hz.1]; decide), (allPut_other _ _ (by decide)).trans h13, allPut_at (k := 13) _ _ hD (by decide) (by decide) (by rw [hz.1]; decide), (allPut_other _ _ (by decide)).trans h15, allPut_at (k := 14) _ _ hD (by decide) (by decide) (by rw [hz.1]; decide), (allPut_other _ _ (by decide)).trans h17⟩ ?_
  rintro af ⟨hz4, k1, k3, k9, k4, k11, k5, k13, k6, k15, k7, k17⟩
  clear hG hne hD h1 h8 h9 h10 h11 h12 h13 h14 h15 h16 h17 hz
  have r0 := hr0.go hb3
  have nb := hr0.lt
  refine wpAnyH_put1 (i := 15) (A' := #[.int .i64 s.c.D, .int .i64 s.c.S, .int .u64 s.c.x, .slice a1 s.c.L.length c1, .bool s.c.s]) (by kernel_rfl) rfl rfl rfl rfl k3 R3 k9 infCm (by simp [Value.oneCell']) (show 0 + 5 ≤ 5 from Nat.le_refl _) rfl (fun _ ho => r0.oth ho (by omega)) ?_
  intro w4 S3 o3
  replace r0 := r0.oth o3 (by omega)
  replace R4 := R4.oth o3 (Ne.symm n34)
  replace R5 := R5.oth o3 (Ne.symm n35)
  replace R6 := R6.oth o3 (Ne.symm n36)
  replace R7 := R7.oth o3 (Ne.symm n37)
  refine wpAnyH_put1 (i := 16) (A' := #[.int .i64 s.l.P, .int .u64 s.l.x, .slice a2 s.l.L.length c2]) (by kernel_rfl) rfl rfl rfl rfl k4 R4 k11 infLl (by simp [Value.oneCell']) (show 0 + 3 ≤ 3 from Nat.le_refl _) rfl (fun _ ho => r0.oth ho (by omega)) ?_
  intro w5 S4 o4
  replace r0 := r0.oth o4 (by omega)
  replace S3 := S3.oth o4 n34
  replace R5 := R5.oth o4 (Ne.symm n45)
  replace R6 := R6.oth o4 (Ne.symm n46)
  replace R7 := R7.oth o4 (Ne.symm n47)
  refine wpAnyH_put1 (i := 17) (A' := #[.int .i64 s.t.S, .int .i64 s.t.T, .slice a3 s.t.L.length c3, .bool s.t.s]) (by kernel_rfl) rfl rfl rfl rfl k5 R5 k13 infTo (by simp [Value.oneCell']) (show 0 + 4 ≤ 4 from Nat.le_refl _) rfl (fun _ ho => r0.oth ho (by omega)) ?_
  intro w6 S5 o5
  replace r0 := r0.oth o5 (by omega)
  replace S3 := S3.oth o5 n35
  replace S4 := S4.oth o5 n45
  replace R6 := R6.oth o5 (Ne.symm n56)
  replace R7 := R7.oth o5 (Ne.symm n57)
  refine wpAnyH_put1 (i := 18) (A' := #[.int .i64 s.f.S, .int .i64 s.f.T, .int .i64 s.f.K, .slice a4 s.f.L.length c4, .bool s.f.s]) (by kernel_rfl) rfl rfl rfl rfl k6 R6 k15 infFq (by simp [Value.oneCell']) (show 0 + 5 ≤ 5 from Nat.le_refl _) rfl (fun _ ho => r0.oth ho (by omega)) ?_
  intro w7 S6 o6
  replace r0 := r0.oth o6 (by omega)
  replace S3 := S3.oth o6 n36
  replace S4 := S4.oth o6 n46
  replace S5 := S5.oth o6 n56
  replace R7 := R7.oth o6 (Ne.symm n67)
  refine wpAnyH_put1 (i := 19) (A' := #[.int .i64 s.r.S, .int .i64 s.r.T, .int .i64 s.r.K, .slice a5 s.r.L.length c5, .bool s.r.s]) (by kernel_rfl) rfl rfl rfl rfl k7 R7 k17 infRk (by simp [Value.oneCell']) (show 0 + 5 ≤ 5 from Nat.le_refl _) rfl (fun _ ho => r0.oth ho (by omega)) ?_
  intro w8 S7 o7
  replace r0 := r0.oth o7 (by omega)
  replace S3 := S3.oth o7 n37
  replace S4 := S4.oth o7 n47
  replace S5 := S5.oth o7 n57
  replace S6 := S6.oth o7 n67
  refine wpAnyH_done (a := af) (w := w8) (by kernel_rfl) ?_ _
  have hB : Below w.heap.size w w8 := by
    have e3 : Below w.heap.size w w3 := bgo hb0 hb3
    have mm : ∀ {g : Nat} {x y : World}, Below w.heap.size w x → Oth g x y → w2.heap.size ≤ g → Below w.heap.size w y := fun h ho hg => h.trans (ho.1.mono (Nat.le_trans (Nat.le_trans (Nat.le_of_lt nb) hg) (Nat.le_refl _)))
    exact mm (mm (mm (mm (mm e3 o3 l3) o4 l4) o5 l5) o6 l6) o7 l7
  clear hb0 hb3 hr0 o3 l3 k9 o4 l4 k11 o5 l5 k13 o6 l6 k15 o7 l7 k17 n34 n35 n36 n37 n45 n46 n47 n56 n57 n67 nb
  refine hK _ _ ?_
  clear hK
  refine wp_seq ?_
  refine wp_region_list ?_
  refine step_do (d := 18) (v := .pointer (some ⟨w.heap.size, 4, none⟩)) rfl rfl (by rw [hz4.1]; decide) ((faSk1 rfl k1).trans (by rw [Nat.zero_add])) ?_
  intro b hzb hnb x18
  replace k1 := (hnb 1 (by decide)).trans k1
  replace k3 := (hnb 3 (by decide)).trans k3
  replace k4 := (hnb 4 (by decide)).trans k4
  replace k5 := (hnb 5 (by decide)).trans k5
  replace k6 := (hnb 6 (by decide)).trans k6
  replace k7 := (hnb 7 (by decide)).trans k7
  replace hz4 := And.intro (hzb.1.trans hz4.1) (hzb.2.trans hz4.2)
  clear hzb hnb
  refine step_do (d := 19) (v := .agg #[.int .i64 s.tT, .int .i64 s.tI, .bool s.tF]) rfl rfl (by rw [hz4.1]; decide) (run_part rfl x18 r0 Tryz.underlying34 rfl infTa rfl) ?_
  intro b hzb hnb x19
  replace k3 := (hnb 3 (by decide)).trans k3
  replace k4 := (hnb 4 (by decide)).trans k4
  replace k5 := (hnb 5 (by decide)).trans k5
  replace k6 := (hnb 6 (by decide)).trans k6
  replace k7 := (hnb 7 (by decide)).trans k7
  replace hz4 := And.intro (hzb.1.trans hz4.1) (hzb.2.trans hz4.2)
  clear hzb hnb
  clear x18 k1 r0
  refine step_do (d := 20) (v := .agg #[.int .i64 0, .int .i64 0, .bool false]) rfl rfl (by rw [hz4.1]; decide) (zeTa rfl) ?_
  intro b hzb hnb x20
  replace k3 := (hnb 3 (by decide)).trans k3
  replace k4 := (hnb 4 (by decide)).trans k4
  replace k5 := (hnb 5 (by decide)).trans k5
  replace k6 := (hnb 6 (by decide)).trans k6
  replace k7 := (hnb 7 (by decide)).trans k7
  replace x19 := (hnb 19 (by decide)).trans x19
  replace hz4 := And.intro (hzb.1.trans hz4.1) (hzb.2.trans hz4.2)
  clear hzb hnb
  refine step_do (d := 21) (v := .bool (decide (s.tT = 0) && decide (s.tI = 0) && !s.tF)) rfl rfl (by rw [hz4.1]; decide) (eqTa rfl x19 x20) ?_
  intro b hzb hnb x21
  replace k3 := (hnb 3 (by decide)).trans k3
  replace k4 := (hnb 4 (by decide)).trans k4
  replace k5 := (hnb 5 (by decide)).trans k5
  replace k6 := (hnb 6 (by decide)).trans k6
  replace k7 := (hnb 7 (by decide)).trans k7
  replace hz4 := And.intro (hzb.1.trans hz4.1) (hzb.2.trans hz4.2)
  clear hzb hnb
  clear x19 x20
  generalize hP0 : (decide (s.tT = 0) && decide (s.tI = 0) && !s.tF) = P0 at x21
  refine step_do (d := 22) (v := .bool P0) rfl rfl (by rw [hz4.1]; decide) (run_mv rfl x21) ?_
  intro b hzb hnb acc
  replace k3 := (hnb 3 (by decide)).trans k3
  replace k4 := (hnb 4 (by decide)).trans k4
  replace k5 := (hnb 5 (by decide)).trans k5
  replace k6 := (hnb 6 (by decide)).trans k6
  replace k7 := (hnb 7 (by decide)).trans k7
  replace hz4 := And.intro (hzb.1.trans hz4.1) (hzb.2.trans hz4.2)
  clear hzb hnb
  clear x21
  refine step_if (p := P0) (v := .pointer (some ⟨G 10, 0, none⟩)) (d := 23) rfl (by rw [hz4.1]; decide) (wanted_of rfl rfl rfl acc) (fun _ => (faCm0 rfl k3).trans (by rw [Nat.zero_add])) ?_
  intro b hzb hnb xf
  replace k3 := (hnb 3 (by decide)).trans k3
  replace k4 := (hnb 4 (by decide)).trans k4
  replace k5 := (hnb 5 (by decide)).trans k5
  replace k6 := (hnb 6 (by decide)).trans k6
  replace k7 := (hnb 7 (by decide)).trans k7
  replace acc := (hnb 22 (by decide)).trans acc
  replace hz4 := And.intro (hzb.1.trans hz4.1) (hzb.2.trans hz4.2)
  clear hzb hnb
  refine step_if (p := P0) (v := .int .i64 s.c.D) (d := 24) rfl (by rw [hz4.1]; decide) (wanted_of rfl rfl rfl acc) (fun hp => run_cell rfl (xf.trans (if_pos hp)) S3 Tryz.underlying3 rfl rfl) ?_
  intro b hzb hnb xv
  replace k3 := (hnb 3 (by decide)).trans k3
  replace k4 := (hnb 4 (by decide)).trans k4
  replace k5 := (hnb 5 (by decide)).trans k5
  replace k6 := (hnb 6 (by decide)).trans k6
  replace k7 := (hnb 7 (by decide)).trans k7
  replace acc := (hnb 22 (by decide)).trans acc
  replace hz4 := And.intro (hzb.1.trans hz4.1) (hzb.2.trans hz4.2)
  clear hzb hnb
  clear xf
  refine step_if (p := P0) (v := .bool (decide (s.c.D = 0))) (d := 25) rfl (by rw [hz4.1]; decide) (wanted_of rfl rfl rfl acc) (fun hp => eq0i rfl (xv.trans (if_pos hp))) ?_
  intro b hzb hnb xb
  replace k3 := (hnb 3 (by decide)).trans k3
  replace k4 := (hnb 4 (by decide)).trans k4
  replace k5 := (hnb 5 (by decide)).trans k5
  replace k6 := (hnb 6 (by decide)).trans k6
  replace k7 := (hnb 7 (by decide)).trans k7
  replace acc := (hnb 22 (by decide)).trans acc
  replace hz4 := And.intro (hzb.1.trans hz4.1) (hzb.2.trans hz4.2)
  clear hzb hnb
  clear xv
  refine step_do (v := .bool (P0 && decide (s.c.D = 0))) (d := 26) rfl rfl (by rw [hz4.1]; decide) (run_pk rfl acc xb) ?_
  intro b hzb hnb xp
  replace k3 := (hnb 3 (by decide)).trans k3
  replace k4 := (hnb 4 (by decide)).trans k4
  replace k5 := (hnb 5 (by decide)).trans k5
  replace k6 := (hnb 6 (by decide)).trans k6
  replace k7 := (hnb 7 (by decide)).trans k7
  replace hz4 := And.intro (hzb.1.trans hz4.1) (hzb.2.trans hz4.2)
  clear hzb hnb
  clear xb acc
  generalize hP1 : (P0 && decide (s.c.D = 0)) = P1 at xp
  refine step_do (v := .bool P1) (d := 27) rfl rfl (by rw [hz4.1]; decide) (run_mv rfl xp) ?_
  intro b hzb hnb acc
  replace k3 := (hnb 3 (by decide)).trans k3
  replace k4 := (hnb 4 (by decide)).trans k4
  replace k5 := (hnb 5 (by decide)).trans k5
  replace k6 := (hnb 6 (by decide)).trans k6
  replace k7 := (hnb 7 (by decide)).trans k7
  replace hz4 := And.intro (hzb.1.trans hz4.1) (hzb.2.trans hz4.2)
  clear hzb hnb
  clear xp
  refine step_if (p := P1) (v := .pointer (some ⟨G 10, 1, none⟩)) (d := 28) rfl (by rw [hz4.1]; decide) (wanted_of rfl rfl rfl acc) (fun _ => (faCm1 rfl k3).trans (by rw [Nat.zero_add])) ?_
  intro b hzb hnb xf
  replace k3 := (hnb 3 (by decide)).trans k3
  replace k4 := (hnb 4 (by decide)).trans k4
  replace k5 := (hnb 5 (by decide)).trans k5
  replace k6 := (hnb 6 (by decide)).trans k6
  replace k7 := (hnb 7 (by decide)).trans k7
  replace acc := (hnb 27 (by decide)).trans acc
  replace hz4 := And.intro (hzb.1.trans hz4.1) (hzb.2.trans hz4.2)
  clear hzb hnb
  refine step_if (p := P1) (v := .int .i64 s.c.S) (d := 29) rfl (by rw [hz4.1]; decide) (wanted_of rfl rfl rfl acc) (fun hp => run_cell rfl (xf.trans (if_pos hp)) S3 Tryz.underlying3 rfl rfl) ?_
  intro b hzb hnb xv
  replace k3 := (hnb 3 (by decide)).trans k3
  replace k4 := (hnb 4 (by decide)).trans k4
  replace k5 := (hnb 5 (by decide)).trans k5
  replace k6 := (hnb 6 (by decide)).trans k6
  replace k7 := (hnb 7 (by decide)).trans k7
  replace acc := (hnb 27 (by decide)).trans acc
  replace hz4 := And.intro (hzb.1.trans hz4.1) (hzb.2.trans hz4.2)
  clear hzb hnb
  clear xf
  refine step_if (p := P1) (v := .bool (decide (s.c.S = 0))) (d := 30) rfl (by rw [hz4.1]; decide) (wanted_of rfl rfl rfl acc) (fun hp => eq0i rfl (xv.trans (if_pos hp))) ?_
  intro b hzb hnb xb
  replace k3 := (hnb 3 (by decide)).trans k3
  replace k4 := (hnb 4 (by decide)).trans k4
  replace k5 := (hnb 5 (by decide)).trans k5
  replace k6 := (hnb 6 (by decide)).trans k6
  replace k7 := (hnb 7 (by decide)).trans k7
  replace acc := (hnb 27 (by decide)).trans acc
  replace hz4 := And.intro (hzb.1.trans hz4.1) (hzb.2.trans hz4.2)
  clear hzb hnb
  clear xv
  refine step_do (v := .bool (P1 && decide (s.c.S = 0))) (d := 31) rfl rfl (by rw [hz4.1]; decide) (run_pk rfl acc xb) ?_
  intro b hzb hnb xp
  replace k3 := (hnb 3 (by decide)).trans k3
  replace k4 := (hnb 4 (by decide)).trans k4
  replace k5 := (hnb 5 (by decide)).trans k5
  replace k6 := (hnb 6 (by decide)).trans k6
  replace k7 := (hnb 7 (by decide)).trans k7
  replace hz4 := And.intro (hzb.1.trans hz4.1) (hzb.2.trans hz4.2)
  clear hzb hnb
  clear xb acc
  generalize hP2 : (P1 && decide (s.c.S = 0)) = P2 at xp
  refine step_do (v := .bool P2) (d := 32) rfl rfl (by rw [hz4.1]; decide) (run_mv rfl xp) ?_
  intro b hzb hnb acc
  replace k3 := (hnb 3 (by decide)).trans k3
  replace k4 := (hnb 4 (by decide)).trans k4
  replace k5 := (hnb 5 (by decide)).trans k5
  replace k6 := (hnb 6 (by decide)).trans k6
  replace k7 := (hnb 7 (by decide)).trans k7
  replace hz4 := And.intro (hzb.1.trans hz4.1) (hzb.2.trans hz4.2)
  clear hzb hnb
  clear xp
  refine step_if (p := P2) (v := .pointer (some ⟨G 10, 2, none⟩)) (d := 33) rfl (by rw [hz4.1]; decide) (wanted_of rfl rfl rfl acc) (fun _ => (faCm2 rfl k3).trans (by rw [Nat.zero_add])) ?_
  intro b hzb hnb xf
  replace k3 := (hnb 3 (by decide)).trans k3
  replace k4 := (hnb 4 (by decide)).trans k4
  replace k5 := (hnb 5 (by decide)).trans k5
  replace k6 := (hnb 6 (by decide)).trans k6
  replace k7 := (hnb 7 (by decide)).trans k7
  replace acc := (hnb 32 (by decide)).trans acc
  replace hz4 := And.intro (hzb.1.trans hz4.1) (hzb.2.trans hz4.2)
  clear hzb hnb
  refine step_if (p := P2) (v := .int .u64 s.c.x) (d := 34) rfl (by rw [hz4.1]; decide) (wanted_of rfl rfl rfl acc) (fun hp => run_cell rfl (xf.trans (if_pos hp)) S3 Tryz.underlying30 rfl rfl) ?_
  intro b hzb hnb xv
  replace k3 := (hnb 3 (by decide)).trans k3
  replace k4 := (hnb 4 (by decide)).trans k4
  replace k5 := (hnb 5 (by decide)).trans k5
  replace k6 := (hnb 6 (by decide)).trans k6
  replace k7 := (hnb 7 (by decide)).trans k7
  replace acc := (hnb 32 (by decide)).trans acc
  replace hz4 := And.intro (hzb.1.trans hz4.1) (hzb.2.trans hz4.2)
  clear hzb hnb
  clear xf
  refine step_if (p := P2) (v := .bool (decide (s.c.x = 0))) (d := 35) rfl (by rw [hz4.1]; decide) (wanted_of rfl rfl rfl acc) (fun hp => eq0u rfl (xv.trans (if_pos hp))) ?_
  intro b hzb hnb xb
  replace k3 := (hnb 3 (by decide)).trans k3
  replace k4 := (hnb 4 (by decide)).trans k4
  replace k5 := (hnb 5 (by decide)).trans k5
  replace k6 := (hnb 6 (by decide)).trans k6
  replace k7 := (hnb 7 (by decide)).trans k7
  replace acc := (hnb 32 (by decide)).trans acc
  replace hz4 := And.intro (hzb.1.trans hz4.1) (hzb.2.trans hz4.2)
  clear hzb hnb
  clear xv
  refine step_do (v := .bool (P2 && decide (s.c.x = 0))) (d := 36) rfl rfl (by rw [hz4.1]; decide) (run_pk rfl acc xb) ?_
  intro b hzb hnb xp
  replace k3 := (hnb 3 (by decide)).trans k3
  replace k4 := (hnb 4 (by decide)).trans k4
  replace k5 := (hnb 5 (by decide)).trans k5
  replace k6 := (hnb 6 (by decide)).trans k6
  replace k7 := (hnb 7 (by decide)).trans k7
  replace hz4 := And.intro (hzb.1.trans hz4.1) (hzb.2.trans hz4.2)
  clear hzb hnb
  clear xb acc
  generalize hP3 : (P2 && decide (s.c.x = 0)) = P3 at xp
  refine step_do (v := .bool P3) (d := 37) rfl rfl (by rw [hz4.1]; decide) (run_mv rfl xp) ?_
  intro b hzb hnb acc
  replace k3 := (hnb 3 (by decide)).trans k3
  replace k4 := (hnb 4 (by decide)).trans k4
  replace k5 := (hnb 5 (by decide)).trans k5
  replace k6 := (hnb 6 (by decide)).trans k6
  replace k7 := (hnb 7 (by decide)).trans k7
  replace hz4 := And.intro (hzb.1.trans hz4.1) (hzb.2.trans hz4.2)
  clear hzb hnb
  clear xp
  refine step_if (p := P3) (v := .pointer (some ⟨G 10, 3, none⟩)) (d := 38) rfl (by rw [hz4.1]; decide) (wanted_of rfl rfl rfl acc) (fun _ => (faCm3 rfl k3).trans (by rw [Nat.zero_add])) ?_
  intro b hzb hnb xf
  replace k3 := (hnb 3 (by decide)).trans k3
  replace k4 := (hnb 4 (by decide)).trans k4
  replace k5 := (hnb 5 (by decide)).trans k5
  replace k6 := (hnb 6 (by decide)).trans k6
  replace k7 := (hnb 7 (by decide)).trans k7
  replace acc := (hnb 37 (by decide)).trans acc
  replace hz4 := And.intro (hzb.1.trans hz4.1) (hzb.2.trans hz4.2)
  clear hzb hnb
  refine step_if (p := P3) (v := .slice a1 s.c.L.length c1) (d := 39) rfl (by rw [hz4.1]; decide) (wanted_of rfl rfl rfl acc) (fun hp => run_cell rfl (xf.trans (if_pos hp)) S3 Tryz.underlying29 rfl rfl) ?_
  intro b hzb hnb xv
  replace k3 := (hnb 3 (by decide)).trans k3
  replace k4 := (hnb 4 (by decide)).trans k4
  replace k5 := (hnb 5 (by decide)).trans k5
  replace k6 := (hnb 6 (by decide)).trans k6
  replace k7 := (hnb 7 (by decide)).trans k7
  replace acc := (hnb 37 (by decide)).trans acc
  replace hz4 := And.intro (hzb.1.trans hz4.1) (hzb.2.trans hz4.2)
  clear hzb hnb
  clear xf
  refine step_if (p := P3) (v := .int .i64 s.c.L.length) (d := 40) rfl (by rw [hz4.1]; decide) (wanted_of rfl rfl rfl acc) (fun hp => lenli rfl (xv.trans (if_pos hp))) ?_
  intro b hzb hnb xl
  replace k3 := (hnb 3 (by decide)).trans k3
  replace k4 := (hnb 4 (by decide)).trans k4
  replace k5 := (hnb 5 (by decide)).trans k5
  replace k6 := (hnb 6 (by decide)).trans k6
  replace k7 := (hnb 7 (by decide)).trans k7
  replace acc := (hnb 37 (by decide)).trans acc
  replace hz4 := And.intro (hzb.1.trans hz4.1) (hzb.2.trans hz4.2)
  clear hzb hnb
  clear xv
  refine step_if (p := P3) (v := .bool (decide ((s.c.L.length : Int) = 0))) (d := 41) rfl (by rw [hz4.1]; decide) (wanted_of rfl rfl rfl acc) (fun hp => eq0i rfl (xl.trans (if_pos hp))) ?_
  intro b hzb hnb xb
  replace k3 := (hnb 3 (by decide)).trans k3
  replace k4 := (hnb 4 (by decide)).trans k4
  replace k5 := (hnb 5 (by decide)).trans k5
  replace k6 := (hnb 6 (by decide)).trans k6
  replace k7 := (hnb 7 (by decide)).trans k7
  replace acc := (hnb 37 (by decide)).trans acc
  replace hz4 := And.intro (hzb.1.trans hz4.1) (hzb.2.trans hz4.2)
  clear hzb hnb
  clear xl
  refine step_do (v := .bool (P3 && decide ((s.c.L.length : Int) = 0))) (d := 42) rfl rfl (by rw [hz4.1]; decide) (run_pk rfl acc xb) ?_
  intro b hzb hnb xp
  replace k3 := (hnb 3 (by decide)).trans k3
  replace k4 := (hnb 4 (by decide)).trans k4
  replace k5 := (hnb 5 (by decide)).trans k5
  replace k6 := (hnb 6 (by decide)).trans k6
  replace k7 := (hnb 7 (by decide)).trans k7
  replace hz4 := And.intro (hzb.1.trans hz4.1) (hzb.2.trans hz4.2)
  clear hzb hnb
  clear xb acc
  generalize hP4 : (P3 && decide ((s.c.L.length : Int) = 0)) = P4 at xp
  refine step_do (v := .bool P4) (d := 43) rfl rfl (by rw [hz4.1]; decide) (run_mv rfl xp) ?_
  intro b hzb hnb acc
  replace k3 := (hnb 3 (by decide)).trans k3
  replace k4 := (hnb 4 (by decide)).trans k4
  replace k5 := (hnb 5 (by decide)).trans k5
  replace k6 := (hnb 6 (by decide)).trans k6
  replace k7 := (hnb 7 (by decide)).trans k7
  replace hz4 := And.intro (hzb.1.trans hz4.1) (hzb.2.trans hz4.2)
  clear hzb hnb
  clear xp
  refine step_if (p := P4) (v := .pointer (some ⟨G 10, 4, none⟩)) (d := 44) rfl (by rw [hz4.1]; decide) (wanted_of rfl rfl rfl acc) (fun _ => (faCm4 rfl k3).trans (by rw [Nat.zero_add])) ?_
  intro b hzb hnb xf
  replace k3 := (hnb 3 (by decide)).trans k3
  replace k4 := (hnb 4 (by decide)).trans k4
  replace k5 := (hnb 5 (by decide)).trans k5
  replace k6 := (hnb 6 (by decide)).trans k6
  replace k7 := (hnb 7 (by decide)).trans k7
  replace acc := (hnb 43 (by decide)).trans acc
  replace hz4 := And.intro (hzb.1.trans hz4.1) (hzb.2.trans hz4.2)
  clear hzb hnb
  refine step_if (p := P4) (v := .bool s.c.s) (d := 45) rfl (by rw [hz4.1]; decide) (wanted_of rfl rfl rfl acc) (fun hp => run_cell rfl (xf.trans (if_pos hp)) S3 Tryz.underlying4 rfl rfl) ?_
  intro b hzb hnb xv
  replace k3 := (hnb 3 (by decide)).trans k3
  replace k4 := (hnb 4 (by decide)).trans k4
  replace k5 := (hnb 5 (by decide)).trans k5
  replace k6 := (hnb 6 (by decide)).trans k6
  replace k7 := (hnb 7 (by decide)).trans k7
  replace acc := (hnb 43 (by decide)).trans acc
  replace hz4 := And.intro (hzb.1.trans hz4.1) (hzb.2.trans hz4.2)
  clear hzb hnb
  clear xf
  refine step_if (p := P4) (v := .bool (!s.c.s)) (d := 46) rfl (by rw [hz4.1]; decide) (wanted_of rfl rfl rfl acc) (fun hp => not_b rfl (xv.trans (if_pos hp))) ?_
  intro b hzb hnb xb
  replace k3 := (hnb 3 (by decide)).trans k3
  replace k4 := (hnb 4 (by decide)).trans k4
  replace k5 := (hnb 5 (by decide)).trans k5
  replace k6 := (hnb 6 (by decide)).trans k6
  replace k7 := (hnb 7 (by decide)).trans k7
  replace acc := (hnb 43 (by decide)).trans acc
  replace hz4 := And.intro (hzb.1.trans hz4.1) (hzb.2.trans hz4.2)
  clear hzb hnb
  clear xv
  refine step_do (v := .bool (P4 && !s.c.s)) (d := 47) rfl rfl (by rw [hz4.1]; decide) (run_pk rfl acc xb) ?_
  intro b hzb hnb xp
  replace k3 := (hnb 3 (by decide)).trans k3
  replace k4 := (hnb 4 (by decide)).trans k4
  replace k5 := (hnb 5 (by decide)).trans k5
  replace k6 := (hnb 6 (by decide)).trans k6
  replace k7 := (hnb 7 (by decide)).trans k7
  replace hz4 := And.intro (hzb.1.trans hz4.1) (hzb.2.trans hz4.2)
  clear hzb hnb
  clear xb acc
  generalize hP5 : (P4 && !s.c.s) = P5 at xp
  refine step_do (v := .bool P5) (d := 48) rfl rfl (by rw [hz4.1]; decide) (run_mv rfl xp) ?_
  intro b hzb hnb acc
  replace k3 := (hnb 3 (by decide)).trans k3
  replace k4 := (hnb 4 (by decide)).trans k4
  replace k5 := (hnb 5 (by decide)).trans k5
  replace k6 := (hnb 6 (by decide)).trans k6
  replace k7 := (hnb 7 (by decide)).trans k7
  replace hz4 := And.intro (hzb.1.trans hz4.1) (hzb.2.trans hz4.2)
  clear hzb hnb
  clear xp
  clear k3 S3
  refine step_if (p := P5) (v := .pointer (some ⟨G 11, 0, none⟩)) (d := 49) rfl (by rw [hz4.1]; decide) (wanted_of rfl rfl rfl acc) (fun _ => (faLl0 rfl k4).trans (by rw [Nat.zero_add])) ?_
  intro b hzb hnb xf
  replace k4 := (hnb 4 (by decide)).trans k4
  replace k5 := (hnb 5 (by decide)).trans k5
  replace k6 := (hnb 6 (by decide)).trans k6
  replace k7 := (hnb 7 (by decide)).trans k7
  replace acc := (hnb 48 (by decide)).trans acc
  replace hz4 := And.intro (hzb.1.trans hz4.1) (hzb.2.trans hz4.2)
  clear hzb hnb
  refine step_if (p := P5) (v := .int .i64 s.l.P) (d := 50) rfl (by rw [hz4.1]; decide) (wanted_of rfl rfl rfl acc) (fun hp => run_cell rfl (xf.trans (if_pos hp)) S4 Tryz.underlying3 rfl rfl) ?_
  intro b hzb hnb xv
  replace k4 := (hnb 4 (by decide)).trans k4
  replace k5 := (hnb 5 (by decide)).trans k5
  replace k6 := (hnb 6 (by decide)).trans k6
  replace k7 := (hnb 7 (by decide)).trans k7
  replace acc := (hnb 48 (by decide)).trans acc
  replace hz4 := And.intro (hzb.1.trans hz4.1) (hzb.2.trans hz4.2)
  clear hzb hnb
  clear xf
  refine step_if (p := P5) (v := .bool (decide (s.l.P = 0))) (d := 51) rfl (by rw [hz4.1]; decide) (wanted_of rfl rfl rfl acc) (fun hp => eq0i rfl (xv.trans (if_pos hp))) ?_
  intro b hzb hnb xb
  replace k4 := (hnb 4 (by decide)).trans k4
  replace k5 := (hnb 5 (by decide)).trans k5
  replace k6 := (hnb 6 (by decide)).trans k6
  replace k7 := (hnb 7 (by decide)).trans k7
  replace acc := (hnb 48 (by decide)).trans acc
  replace hz4 := And.intro (hzb.1.trans hz4.1) (hzb.2.trans hz4.2)
  clear hzb hnb
  clear xv
  refine step_do (v := .bool (P5 && decide (s.l.P = 0))) (d := 52) rfl rfl (by rw [hz4.1]; decide) (run_pk rfl acc xb) ?_
  intro b hzb hnb xp
  replace k4 := (hnb 4 (by decide)).trans k4
  replace k5 := (hnb 5 (by decide)).trans k5
  replace k6 := (hnb 6 (by decide)).trans k6
  replace k7 := (hnb 7 (by decide)).trans k7
  replace hz4 := And.intro (hzb.1.trans hz4.1) (hzb.2.trans hz4.2)
  clear hzb hnb
  clear xb acc
  generalize hP6 : (P5 && decide (s.l.P = 0)) = P6 at xp
  refine step_do (v := .bool P6) (d := 53) rfl rfl (by rw [hz4.1]; decide) (run_mv rfl xp) ?_
  intro b hzb hnb acc
  replace k4 := (hnb 4 (by decide)).trans k4
  replace k5 := (hnb 5 (by decide)).trans k5
  replace k6 := (hnb 6 (by decide)).trans k6
  replace k7 := (hnb 7 (by decide)).trans k7
  replace hz4 := And.intro (hzb.1.trans hz4.1) (hzb.2.trans hz4.2)
  clear hzb hnb
  clear xp
  refine step_if (p := P6) (v := .pointer (some ⟨G 11, 1, none⟩)) (d := 54) rfl (by rw [hz4.1]; decide) (wanted_of rfl rfl rfl acc) (fun _ => (faLl1 rfl k4).trans (by rw [Nat.zero_add])) ?_
  intro b hzb hnb xf
  replace k4 := (hnb 4 (by decide)).trans k4
  replace k5 := (hnb 5 (by decide)).trans k5
  replace k6 := (hnb 6 (by decide)).trans k6
  replace k7 := (hnb 7 (by decide)).trans k7
  replace acc := (hnb 53 (by decide)).trans acc
  replace hz4 := And.intro (hzb.1.trans hz4.1) (hzb.2.trans hz4.2)
  clear hzb hnb
  refine step_if (p := P6) (v := .int .u64 s.l.x) (d := 55) rfl (by rw [hz4.1]; decide) (wanted_of rfl rfl rfl acc) (fun hp => run_cell rfl (xf.trans (if_pos hp)) S4 Tryz.underlying30 rfl rfl) ?_
  intro b hzb hnb xv
  replace k4 := (hnb 4 (by decide)).trans k4
  replace k5 := (hnb 5 (by decide)).trans k5
  replace k6 := (hnb 6 (by decide)).trans k6
  replace k7 := (hnb 7 (by decide)).trans k7
  replace acc := (hnb 53 (by decide)).trans acc
  replace hz4 := And.intro (hzb.1.trans hz4.1) (hzb.2.trans hz4.2)
  clear hzb hnb
  clear xf
  refine step_if (p := P6) (v := .bool (decide (s.l.x = 0))) (d := 56) rfl (by rw [hz4.1]; decide) (wanted_of rfl rfl rfl acc) (fun hp => eq0u rfl (xv.trans (if_pos hp))) ?_
  intro b hzb hnb xb
  replace k4 := (hnb 4 (by decide)).trans k4
  replace k5 := (hnb 5 (by decide)).trans k5
  replace k6 := (hnb 6 (by decide)).trans k6
  replace k7 := (hnb 7 (by decide)).trans k7
  replace acc := (hnb 53 (by decide)).trans acc
  replace hz4 := And.intro (hzb.1.trans hz4.1) (hzb.2.trans hz4.2)
  clear hzb hnb
  clear xv
  refine step_do (v := .bool (P6 && decide (s.l.x = 0))) (d := 57) rfl rfl (by rw [hz4.1]; decide) (run_pk rfl acc xb) ?_
  intro b hzb hnb xp
  replace k4 := (hnb 4 (by decide)).trans k4
  replace k5 := (hnb 5 (by decide)).trans k5
  replace k6 := (hnb 6 (by decide)).trans k6
  replace k7 := (hnb 7 (by decide)).trans k7
  replace hz4 := And.intro (hzb.1.trans hz4.1) (hzb.2.trans hz4.2)
  clear hzb hnb
  clear xb acc
  generalize hP7 : (P6 && decide (s.l.x = 0)) = P7 at xp
  refine step_do (v := .bool P7) (d := 58) rfl rfl (by rw [hz4.1]; decide) (run_mv rfl xp) ?_
  intro b hzb hnb acc
  replace k4 := (hnb 4 (by decide)).trans k4
  replace k5 := (hnb 5 (by decide)).trans k5
  replace k6 := (hnb 6 (by decide)).trans k6
  replace k7 := (hnb 7 (by decide)).trans k7
  replace hz4 := And.intro (hzb.1.trans hz4.1) (hzb.2.trans hz4.2)
  clear hzb hnb
  clear xp
  refine step_if (p := P7) (v := .pointer (some ⟨G 11, 2, none⟩)) (d := 59) rfl (by rw [hz4.1]; decide) (wanted_of rfl rfl rfl acc) (fun _ => (faLl2 rfl k4).trans (by rw [Nat.zero_add])) ?_
  intro b hzb hnb xf
  replace k4 := (hnb 4 (by decide)).trans k4
  replace k5 := (hnb 5 (by decide)).trans k5
  replace k6 := (hnb 6 (by decide)).trans k6
  replace k7 := (hnb 7 (by decide)).trans k7
  replace acc := (hnb 58 (by decide)).trans acc
  replace hz4 := And.intro (hzb.1.trans hz4.1) (hzb.2.trans hz4.2)
  clear hzb hnb
  refine step_if (p := P7) (v := .slice a2 s.l.L.length c2) (d := 60) rfl (by rw [hz4.1]; decide) (wanted_of rfl rfl rfl acc) (fun hp => run_cell rfl (xf.trans (if_pos hp)) S4 Tryz.underlying29 rfl rfl) ?_
  intro b hzb hnb xv
  replace k4 := (hnb 4 (by decide)).trans k4
  replace k5 := (hnb 5 (by decide)).trans k5
  replace k6 := (hnb 6 (by decide)).trans k6
  replace k7 := (hnb 7 (by decide)).trans k7
  replace acc := (hnb 58 (by decide)).trans acc
  replace hz4 := And.intro (hzb.1.trans hz4.1) (hzb.2.trans hz4.2)
  clear hzb hnb
  clear xf
  refine step_if (p := P7) (v := .int .i64 s.l.L.length) (d := 61) rfl (by rw [hz4.1]; decide) (wanted_of rfl rfl rfl acc) (fun hp => lenli rfl (xv.trans (if_pos hp))) ?_
  intro b hzb hnb xl
  replace k4 := (hnb 4 (by decide)).trans k4
  replace k5 := (hnb 5 (by decide)).trans k5
  replace k6 := (hnb 6 (by decide)).trans k6
  replace k7 := (hnb 7 (by decide)).trans k7
  replace acc := (hnb 58 (by decide)).trans acc
  replace hz4 := And.intro (hzb.1.trans hz4.1) (hzb.2.trans hz4.2)
  clear hzb hnb
  clear xv
  refine step_if (p := P7) (v := .bool (decide ((s.l.L.length : Int) = 0))) (d := 62) rfl (by rw [hz4.1]; decide) (wanted_of rfl rfl rfl acc) (fun hp => eq0i rfl (xl.trans (if_pos hp))) ?_
  intro b hzb hnb xb
  replace k4 := (hnb 4 (by decide)).trans k4
  replace k5 := (hnb 5 (by decide)).trans k5
  replace k6 := (hnb 6 (by decide)).trans k6
  replace k7 := (hnb 7 (by decide)).trans k7
  replace acc := (hnb 58 (by decide)).trans acc
  replace hz4 := And.intro (hzb.1.trans hz4.1) (hzb.2.trans hz4.2)
  clear hzb hnb
  clear xl
  refine step_do (v := .bool (P7 && decide ((s.l.L.length : Int) = 0))) (d := 63) rfl rfl (by rw [hz4.1]; decide) (run_pk rfl acc xb) ?_
  intro b hzb hnb xp
  replace k4 := (hnb 4 (by decide)).trans k4
  replace k5 := (hnb 5 (by decide)).trans k5
  replace k6 := (hnb 6 (by decide)).trans k6
  replace k7 := (hnb 7 (by decide)).trans k7
  replace hz4 := And.intro (hzb.1.trans hz4.1) (hzb.2.trans hz4.2)
  clear hzb hnb
  clear xb acc
  generalize hP8 : (P7 && decide ((s.l.L.length : Int) = 0)) = P8 at xp
  refine step_do (v := .bool P8) (d := 64) rfl rfl (by rw [hz4.1]; decide) (run_mv rfl xp) ?_
  intro b hzb hnb acc
  replace k4 := (hnb 4 (by decide)).trans k4
  replace k5 := (hnb 5 (by decide)).trans k5
  replace k6 := (hnb 6 (by decide)).trans k6
  replace k7 := (hnb 7 (by decide)).trans k7
  replace hz4 := And.intro (hzb.1.trans hz4.1) (hzb.2.trans hz4.2)
  clear hzb hnb
  clear xp
  clear k4 S4
  refine step_if (p := P8) (v := .pointer (some ⟨G 12, 0, none⟩)) (d := 65) rfl (by rw [hz4.1]; decide) (wanted_of rfl rfl rfl acc) (fun _ => (faTo0 rfl k5).trans (by rw [Nat.zero_add])) ?_
  intro b hzb hnb xf
  replace k5 := (hnb 5 (by decide)).trans k5
  replace k6 := (hnb 6 (by decide)).trans k6
  replace k7 := (hnb 7 (by decide)).trans k7
  replace acc := (hnb 64 (by decide)).trans acc
  replace hz4 := And.intro (hzb.1.trans hz4.1) (hzb.2.trans hz4.2)
  clear hzb hnb
  refine step_if (p := P8) (v := .int .i64 s.t.S) (d := 66) rfl (by rw [hz4.1]; decide) (wanted_of rfl rfl rfl acc) (fun hp => run_cell rfl (xf.trans (if_pos hp)) S5 Tryz.underlying3 rfl rfl) ?_
  intro b hzb hnb xv
  replace k5 := (hnb 5 (by decide)).trans k5
  replace k6 := (hnb 6 (by decide)).trans k6
  replace k7 := (hnb 7 (by decide)).trans k7
  replace acc := (hnb 64 (by decide)).trans acc
  replace hz4 := And.intro (hzb.1.trans hz4.1) (hzb.2.trans hz4.2)
  clear hzb hnb
  clear xf
  refine step_if (p := P8) (v := .bool (decide (s.t.S = 0))) (d := 67) rfl (by rw [hz4.1]; decide) (wanted_of rfl rfl rfl acc) (fun hp => eq0i rfl (xv.trans (if_pos hp))) ?_
  intro b hzb hnb xb
  replace k5 := (hnb 5 (by decide)).trans k5
  replace k6 := (hnb 6 (by decide)).trans k6
  replace k7 := (hnb 7 (by decide)).trans k7
  replace acc := (hnb 64 (by decide)).trans acc
  replace hz4 := And.intro (hzb.1.trans hz4.1) (hzb.2.trans hz4.2)
  clear hzb hnb
  clear xv
  refine step_do (v := .bool (P8 && decide (s.t.S = 0))) (d := 68) rfl rfl (by rw [hz4.1]; decide) (run_pk rfl acc xb) ?_
  intro b hzb hnb xp
  replace k5 := (hnb 5 (by decide)).trans k5
  replace k6 := (hnb 6 (by decide)).trans k6
  replace k7 := (hnb 7 (by decide)).trans k7
  replace hz4 := And.intro (hzb.1.trans hz4.1) (hzb.2.trans hz4.2)
  clear hzb hnb
  clear xb acc
  generalize hP9 : (P8 && decide (s.t.S = 0)) = P9 at xp
  refine step_do (v := .bool P9) (d := 69) rfl rfl (by rw [hz4.1]; decide) (run_mv rfl xp) ?_
  intro b hzb hnb acc
  replace k5 := (hnb 5 (by decide)).trans k5
  replace k6 := (hnb 6 (by decide)).trans k6
  replace k7 := (hnb 7 (by decide)).trans k7
  replace hz4 := And.intro (hzb.1.trans hz4.1) (hzb.2.trans hz4.2)
  clear hzb hnb
  clear xp
  refine step_if (p := P9) (v := .pointer (some ⟨G 12, 1, none⟩)) (d := 70) rfl (by rw [hz4.1]; decide) (wanted_of rfl rfl rfl acc) (fun _ => (faTo1 rfl k5).trans (by rw [Nat.zero_add])) ?_
  intro b hzb hnb xf
  replace k5 := (hnb 5 (by decide)).trans k5
  replace k6 := (hnb 6 (by decide)).trans k6
  replace k7 := (hnb 7 (by decide)).trans k7
  replace acc := (hnb 69 (by decide)).trans acc
  replace hz4 := And.intro (hzb.1.trans hz4.1) (hzb.2.trans hz4.2)
  clear hzb hnb
  refine step_if (p := P9) (v := .int .i64 s.t.T) (d := 71) rfl (by rw [hz4.1]; decide) (wanted_of rfl rfl rfl acc) (fun hp => run_cell rfl (xf.trans (if_pos hp)) S5 Tryz.underlying3 rfl rfl) ?_
  intro b hzb hnb xv
  replace k5 := (hnb 5 (by decide)).trans k5
  replace k6 := (hnb 6 (by decide)).trans k6
  replace k7 := (hnb 7 (by decide)).trans k7
  replace acc := (hnb 69 (by decide)).trans acc
  replace hz4 := And.intro (hzb.1.trans hz4.1) (hzb.2.trans hz4.2)
  clear hzb hnb
  clear xf
  refine step_if (p := P9) (v := .bool (decide (s.t.T = 0))) (d := 72) rfl (by rw [hz4.1]; decide) (wanted_of rfl rfl rfl acc) (fun hp => eq0i rfl (xv.trans (if_pos hp))) ?_
  intro b hzb hnb xb
  replace k5 := (hnb 5 (by decide)).trans k5
  replace k6 := (hnb 6 (by decide)).trans k6
  replace k7 := (hnb 7 (by decide)).trans k7
  replace acc := (hnb 69 (by decide)).trans acc
  replace hz4 := And.intro (hzb.1.trans hz4.1) (hzb.2.trans hz4.2)
  clear hzb hnb
  clear xv
  refine step_do (v := .bool (P9 && decide (s.t.T = 0))) (d := 73) rfl rfl (by rw [hz4.1]; decide) (run_pk rfl acc xb) ?_
  intro b hzb hnb xp
  replace k5 := (hnb 5 (by decide)).trans k5
  replace k6 := (hnb 6 (by decide)).trans k6
  replace k7 := (hnb 7 (by decide)).trans k7
  replace hz4 := And.intro (hzb.1.trans hz4.1) (hzb.2.trans hz4.2)
  clear hzb hnb
  clear xb acc
  generalize hP10 : (P9 && decide (s.t.T = 0)) = P10 at xp
  refine step_do (v := .bool P10) (d := 74) rfl rfl (by rw [hz4.1]; decide) (run_mv rfl xp) ?_
  intro b hzb hnb acc
  replace k5 := (hnb 5 (by decide)).trans k5
  replace k6 := (hnb 6 (by decide)).trans k6
  replace k7 := (hnb 7 (by decide)).trans k7
  replace hz4 := And.intro (hzb.1.trans hz4.1) (hzb.2.trans hz4.2)
  clear hzb hnb
  clear xp
  refine step_if (p := P10) (v := .pointer (some ⟨G 12, 2, none⟩)) (d := 75) rfl (by rw [hz4.1]; decide) (wanted_of rfl rfl rfl acc) (fun _ => (faTo2 rfl k5).trans (by rw [Nat.zero_add])) ?_
  intro b hzb hnb xf
  replace k5 := (hnb 5 (by decide)).trans k5
  replace k6 := (hnb 6 (by decide)).trans k6
  replace k7 := (hnb 7 (by decide)).trans k7
  replace acc := (hnb 74 (by decide)).trans acc
  replace hz4 := And.intro (hzb.1.trans hz4.1) (hzb.2.trans hz4.2)
  clear hzb hnb
  refine step_if (p := P10) (v := .slice a3 s.t.L.length c3) (d := 76) rfl (by rw [hz4.1]; decide) (wanted_of rfl rfl rfl acc) (fun hp => run_cell rfl (xf.trans (if_pos hp)) S5 Tryz.underlying39 rfl rfl) ?_
  intro b hzb hnb xv
  replace k5 := (hnb 5 (by decide)).trans k5
  replace k6 := (hnb 6 (by decide)).trans k6
  replace k7 := (hnb 7 (by decide)).trans k7
  replace acc := (hnb 74 (by decide)).trans acc
  replace hz4 := And.intro (hzb.1.trans hz4.1) (hzb.2.trans hz4.2)
  clear hzb hnb
  clear xf
  refine step_if (p := P10) (v := .int .i64 s.t.L.length) (d := 77) rfl (by rw [hz4.1]; decide) (wanted_of rfl rfl rfl acc) (fun hp => lenle rfl (xv.trans (if_pos hp))) ?_
  intro b hzb hnb xl
  replace k5 := (hnb 5 (by decide)).trans k5
  replace k6 := (hnb 6 (by decide)).trans k6
  replace k7 := (hnb 7 (by decide)).trans k7
  replace acc := (hnb 74 (by decide)).trans acc
  replace hz4 := And.intro (hzb.1.trans hz4.1) (hzb.2.trans hz4.2)
  clear hzb hnb
  clear xv
  refine step_if (p := P10) (v := .bool (decide ((s.t.L.length : Int) = 0))) (d := 78) rfl (by rw [hz4.1]; decide) (wanted_of rfl rfl rfl acc) (fun hp => eq0i rfl (xl.trans (if_pos hp))) ?_
  intro b hzb hnb xb
  replace k5 := (hnb 5 (by decide)).trans k5
  replace k6 := (hnb 6 (by decide)).trans k6
  replace k7 := (hnb 7 (by decide)).trans k7
  replace acc := (hnb 74 (by decide)).trans acc
  replace hz4 := And.intro (hzb.1.trans hz4.1) (hzb.2.trans hz4.2)
  clear hzb hnb
  clear xl
  refine step_do (v := .bool (P10 && decide ((s.t.L.length : Int) = 0))) (d := 79) rfl rfl (by rw [hz4.1]; decide) (run_pk rfl acc xb) ?_
  intro b hzb hnb xp
  replace k5 := (hnb 5 (by decide)).trans k5
  replace k6 := (hnb 6 (by decide)).trans k6
  replace k7 := (hnb 7 (by decide)).trans k7
  replace hz4 := And.intro (hzb.1.trans hz4.1) (hzb.2.trans hz4.2)
  clear hzb hnb
  clear xb acc
  generalize hP11 : (P10 && decide ((s.t.L.length : Int) = 0)) = P11 at xp
  refine step_do (v := .bool P11) (d := 80) rfl rfl (by rw [hz4.1]; decide) (run_mv rfl xp) ?_
  intro b hzb hnb acc
  replace k5 := (hnb 5 (by decide)).trans k5
  replace k6 := (hnb 6 (by decide)).trans k6
  replace k7 := (hnb 7 (by decide)).trans k7
  replace hz4 := And.intro (hzb.1.trans hz4.1) (hzb.2.trans hz4.2)
  clear hzb hnb
  clear xp
  refine step_if (p := P11) (v := .pointer (some ⟨G 12, 3, none⟩)) (d := 81) rfl (by rw [hz4.1]; decide) (wanted_of rfl rfl rfl acc) (fun _ => (faTo3 rfl k5).trans (by rw [Nat.zero_add])) ?_
  intro b hzb hnb xf
  replace k5 := (hnb 5 (by decide)).trans k5
  replace k6 := (hnb 6 (by decide)).trans k6
  replace k7 := (hnb 7 (by decide)).trans k7
  replace acc := (hnb 80 (by decide)).trans acc
  replace hz4 := And.intro (hzb.1.trans hz4.1) (hzb.2.trans hz4.2)
  clear hzb hnb
  refine step_if (p := P11) (v := .bool s.t.s) (d := 82) rfl (by rw [hz4.1]; decide) (wanted_of rfl rfl rfl acc) (fun hp => run_cell rfl (xf.trans (if_pos hp)) S5 Tryz.underlying4 rfl rfl) ?_
  intro b hzb hnb xv
  replace k5 := (hnb 5 (by decide)).trans k5
  replace k6 := (hnb 6 (by decide)).trans k6
  replace k7 := (hnb 7 (by decide)).trans k7
  replace acc := (hnb 80 (by decide)).trans acc
  replace hz4 := And.intro (hzb.1.trans hz4.1) (hzb.2.trans hz4.2)
  clear hzb hnb
  clear xf
  refine step_if (p := P11) (v := .bool (!s.t.s)) (d := 83) rfl (by rw [hz4.1]; decide) (wanted_of rfl rfl rfl acc) (fun hp => not_b rfl (xv.trans (if_pos hp))) ?_
  intro b hzb hnb xb
  replace k5 := (hnb 5 (by decide)).trans k5
  replace k6 := (hnb 6 (by decide)).trans k6
  replace k7 := (hnb 7 (by decide)).trans k7
  replace acc := (hnb 80 (by decide)).trans acc
  replace hz4 := And.intro (hzb.1.trans hz4.1) (hzb.2.trans hz4.2)
  clear hzb hnb
  clear xv
  refine step_do (v := .bool (P11 && !s.t.s)) (d := 84) rfl rfl (by rw [hz4.1]; decide) (run_pk rfl acc xb) ?_
  intro b hzb hnb xp
  replace k5 := (hnb 5 (by decide)).trans k5
  replace k6 := (hnb 6 (by decide)).trans k6
  replace k7 := (hnb 7 (by decide)).trans k7
  replace hz4 := And.intro (hzb.1.trans hz4.1) (hzb.2.trans hz4.2)
  clear hzb hnb
  clear xb acc
  generalize hP12 : (P11 && !s.t.s) = P12 at xp
  refine step_do (v := .bool P12) (d := 85) rfl rfl (by rw [hz4.1]; decide) (run_mv rfl xp) ?_
  intro b hzb hnb acc
  replace k5 := (hnb 5 (by decide)).trans k5
  replace k6 := (hnb 6 (by decide)).trans k6
  replace k7 := (hnb 7 (by decide)).trans k7
  replace hz4 := And.intro (hzb.1.trans hz4.1) (hzb.2.trans hz4.2)
  clear hzb hnb
  clear xp
  clear k5 S5
  refine step_if (p := P12) (v := .pointer (some ⟨G 13, 0, none⟩)) (d := 86) rfl (by rw [hz4.1]; decide) (wanted_of rfl rfl rfl acc) (fun _ => (faFq0 rfl k6).trans (by rw [Nat.zero_add])) ?_
  intro b hzb hnb xf
  replace k6 := (hnb 6 (by decide)).trans k6
  replace k7 := (hnb 7 (by decide)).trans k7
  replace acc := (hnb 85 (by decide)).trans acc
  replace hz4 := And.intro (hzb.1.trans hz4.1) (hzb.2.trans hz4.2)
  clear hzb hnb
  refine step_if (p := P12) (v := .int .i64 s.f.S) (d := 87) rfl (by rw [hz4.1]; decide) (wanted_of rfl rfl rfl acc) (fun hp => run_cell rfl (xf.trans (if_pos hp)) S6 Tryz.underlying3 rfl rfl) ?_
  intro b hzb hnb xv
  replace k6 := (hnb 6 (by decide)).trans k6
  replace k7 := (hnb 7 (by decide)).trans k7
  replace acc := (hnb 85 (by decide)).trans acc
  replace hz4 := And.intro (hzb.1.trans hz4.1) (hzb.2.trans hz4.2)
  clear hzb hnb
  clear xf
  refine step_if (p := P12) (v := .bool (decide (s.f.S = 0))) (d := 88) rfl (by rw [hz4.1]; decide) (wanted_of rfl rfl rfl acc) (fun hp => eq0i rfl (xv.trans (if_pos hp))) ?_
  intro b hzb hnb xb
  replace k6 := (hnb 6 (by decide)).trans k6
  replace k7 := (hnb 7 (by decide)).trans k7
  replace acc := (hnb 85 (by decide)).trans acc
  replace hz4 := And.intro (hzb.1.trans hz4.1) (hzb.2.trans hz4.2)
  clear hzb hnb
  clear xv
  refine step_do (v := .bool (P12 && decide (s.f.S = 0))) (d := 89) rfl rfl (by rw [hz4.1]; decide) (run_pk rfl acc xb) ?_
  intro b hzb hnb xp
  replace k6 := (hnb 6 (by decide)).trans k6
  replace k7 := (hnb 7 (by decide)).trans k7
  replace hz4 := And.intro (hzb.1.trans hz4.1) (hzb.2.trans hz4.2)
  clear hzb hnb
  clear xb acc
  generalize hP13 : (P12 && decide (s.f.S = 0)) = P13 at xp
  refine step_do (v := .bool P13) (d := 90) rfl rfl (by rw [hz4.1]; decide) (run_mv rfl xp) ?_
  intro b hzb hnb acc
  replace k6 := (hnb 6 (by decide)).trans k6
  replace k7 := (hnb 7 (by decide)).trans k7
  replace hz4 := And.intro (hzb.1.trans hz4.1) (hzb.2.trans hz4.2)
  clear hzb hnb
  clear xp
  refine step_if (p := P13) (v := .pointer (some ⟨G 13, 1, none⟩)) (d := 91) rfl (by rw [hz4.1]; decide) (wanted_of rfl rfl rfl acc) (fun _ => (faFq1 rfl k6).trans (by rw [Nat.zero_add])) ?_
  intro b hzb hnb xf
  replace k6 := (hnb 6 (by decide)).trans k6
  replace k7 := (hnb 7 (by decide)).trans k7
  replace acc := (hnb 90 (by decide)).trans acc
  replace hz4 := And.intro (hzb.1.trans hz4.1) (hzb.2.trans hz4.2)
  clear hzb hnb
  refine step_if (p := P13) (v := .int .i64 s.f.T) (d := 92) rfl (by rw [hz4.1]; decide) (wanted_of rfl rfl rfl acc) (fun hp => run_cell rfl (xf.trans (if_pos hp)) S6 Tryz.underlying3 rfl rfl) ?_
  intro b hzb hnb xv
  replace k6 := (hnb 6 (by decide)).trans k6
  replace k7 := (hnb 7 (by decide)).trans k7
  replace acc := (hnb 90 (by decide)).trans acc
  replace hz4 := And.intro (hzb.1.trans hz4.1) (hzb.2.trans hz4.2)
  clear hzb hnb
  clear xf
  refine step_if (p := P13) (v := .bool (decide (s.f.T = 0))) (d := 93) rfl (by rw [hz4.1]; decide) (wanted_of rfl rfl rfl acc) (fun hp => eq0i rfl (xv.trans (if_pos hp))) ?_
  intro b hzb hnb xb
  replace k6 := (hnb 6 (by decide)).trans k6
  replace k7 := (hnb 7 (by decide)).trans k7
  replace acc := (hnb 90 (by decide)).trans acc
  replace hz4 := And.intro (hzb.1.trans hz4.1) (hzb.2.trans hz4.2)
  clear hzb hnb
  clear xv
  refine step_do (v := .bool (P13 && decide (s.f.T = 0))) (d := 94) rfl rfl (by rw [hz4.1]; decide) (run_pk rfl acc xb) ?_
  intro b hzb hnb xp
  replace k6 := (hnb 6 (by decide)).trans k6
  replace k7 := (hnb 7 (by decide)).trans k7
  replace hz4 := And.intro (hzb.1.trans hz4.1) (hzb.2.trans hz4.2)
  clear hzb hnb
  clear xb acc
  generalize hP14 : (P13 && decide (s.f.T = 0)) = P14 at xp
  refine step_do (v := .bool P14) (d := 95) rfl rfl (by rw [hz4.1]; decide) (run_mv rfl xp) ?_
  intro b hzb hnb acc
  replace k6 := (hnb 6 (by decide)).trans k6
  replace k7 := (hnb 7 (by decide)).trans k7
  replace hz4 := And.intro (hzb.1.trans hz4.1) (hzb.2.trans hz4.2)
  clear hzb hnb
  clear xp
  refine step_if (p := P14) (v := .pointer (some ⟨G 13, 2, none⟩)) (d := 96) rfl (by rw [hz4.1]; decide) (wanted_of rfl rfl rfl acc) (fun _ => (faFq2 rfl k6).trans (by rw [Nat.zero_add])) ?_
  intro b hzb hnb xf
  replace k6 := (hnb 6 (by decide)).trans k6
  replace k7 := (hnb 7 (by decide)).trans k7
  replace acc := (hnb 95 (by decide)).trans acc
  replace hz4 := And.intro (hzb.1.trans hz4.1) (hzb.2.trans hz4.2)
  clear hzb hnb
  refine step_if (p := P14) (v := .int .i64 s.f.K) (d := 97) rfl (by rw [hz4.1]; decide) (wanted_of rfl rfl rfl acc) (fun hp => run_cell rfl (xf.trans (if_pos hp)) S6 Tryz.underlying3 rfl rfl) ?_
  intro b hzb hnb xv
  replace k6 := (hnb 6 (by decide)).trans k6
  replace k7 := (hnb 7 (by decide)).trans k7
  replace acc := (hnb 95 (by decide)).trans acc
  replace hz4 := And.intro (hzb.1.trans hz4.1) (hzb.2.trans hz4.2)
  clear hzb hnb
  clear xf
  refine step_if (p := P14) (v := .bool (decide (s.f.K = 0))) (d := 98) rfl (by rw [hz4.1]; decide) (wanted_of rfl rfl rfl acc) (fun hp => eq0i rfl (xv.trans (if_pos hp))) ?_
  intro b hzb hnb xb
  replace k6 := (hnb 6 (by decide)).trans k6
  replace k7 := (hnb 7 (by decide)).trans k7
  replace acc := (hnb 95 (by decide)).trans acc
  replace hz4 := And.intro (hzb.1.trans hz4.1) (hzb.2.trans hz4.2)
  clear hzb hnb
  clear xv
  refine step_do (v := .bool (P14 && decide (s.f.K = 0))) (d := 99) rfl rfl (by rw [hz4.1]; decide) (run_pk rfl acc xb) ?_
  intro b hzb hnb xp
  replace k6 := (hnb 6 (by decide)).trans k6
  replace k7 := (hnb 7 (by decide)).trans k7
  replace hz4 := And.intro (hzb.1.trans hz4.1) (hzb.2.trans hz4.2)
  clear hzb hnb
  clear xb acc
  generalize hP15 : (P14 && decide (s.f.K = 0)) = P15 at xp
  refine step_do (v := .bool P15) (d := 100) rfl rfl (by rw [hz4.1]; decide) (run_mv rfl xp) ?_
  intro b hzb hnb acc
  replace k6 := (hnb 6 (by decide)).trans k6
  replace k7 := (hnb 7 (by decide)).trans k7
  replace hz4 := And.intro (hzb.1.trans hz4.1) (hzb.2.trans hz4.2)
  clear hzb hnb
  clear xp
  refine step_if (p := P15) (v := .pointer (some ⟨G 13, 3, none⟩)) (d := 101) rfl (by rw [hz4.1]; decide) (wanted_of rfl rfl rfl acc) (fun _ => (faFq3 rfl k6).trans (by rw [Nat.zero_add])) ?_
  intro b hzb hnb xf
  replace k6 := (hnb 6 (by decide)).trans k6
  replace k7 := (hnb 7 (by decide)).trans k7
  replace acc := (hnb 100 (by decide)).trans acc
  replace hz4 := And.intro (hzb.1.trans hz4.1) (hzb.2.trans hz4.2)
  clear hzb hnb
  refine step_if (p := P15) (v := .slice a4 s.f.L.length c4) (d := 102) rfl (by rw [hz4.1]; decide) (wanted_of rfl rfl rfl acc) (fun hp => run_cell rfl (xf.trans (if_pos hp)) S6 Tryz.underlying39 rfl rfl) ?_
  intro b hzb hnb xv
  replace k6 := (hnb 6 (by decide)).trans k6
  replace k7 := (hnb 7 (by decide)).trans k7
  replace acc := (hnb 100 (by decide)).trans acc
  replace hz4 := And.intro (hzb.1.trans hz4.1) (hzb.2.trans hz4.2)
  clear hzb hnb
  clear xf
  refine step_if (p := P15) (v := .int .i64 s.f.L.length) (d := 103) rfl (by rw [hz4.1]; decide) (wanted_of rfl rfl rfl acc) (fun hp => lenle rfl (xv.trans (if_pos hp))) ?_
  intro b hzb hnb xl
  replace k6 := (hnb 6 (by decide)).trans k6
  replace k7 := (hnb 7 (by decide)).trans k7
  replace acc := (hnb 100 (by decide)).trans acc
  replace hz4 := And.intro (hzb.1.trans hz4.1) (hzb.2.trans hz4.2)
  clear hzb hnb
  clear xv
  refine step_if (p := P15) (v := .bool (decide ((s.f.L.length : Int) = 0))) (d := 104) rfl (by rw [hz4.1]; decide) (wanted_of rfl rfl rfl acc) (fun hp => eq0i rfl (xl.trans (if_pos hp))) ?_
  intro b hzb hnb xb
  replace k6 := (hnb 6 (by decide)).trans k6
  replace k7 := (hnb 7 (by decide)).trans k7
  replace acc := (hnb 100 (by decide)).trans acc
  replace hz4 := And.intro (hzb.1.trans hz4.1) (hzb.2.trans hz4.2)
  clear hzb hnb
  clear xl
  refine step_do (v := .bool (P15 && decide ((s.f.L.length : Int) = 0))) (d := 105) rfl rfl (by rw [hz4.1]; decide) (run_pk rfl acc xb) ?_
  intro b hzb hnb xp
  replace k6 := (hnb 6 (by decide)).trans k6
  replace k7 := (hnb 7 (by decide)).trans k7
  replace hz4 := And.intro (hzb.1.trans hz4.1) (hzb.2.trans hz4.2)
  clear hzb hnb
  clear xb acc
  generalize hP16 : (P15 && decide ((s.f.L.length : Int) = 0)) = P16 at xp
  refine step_do (v := .bool P16) (d := 106) rfl rfl (by rw [hz4.1]; decide) (run_mv rfl xp) ?_
  intro b hzb hnb acc
  replace k6 := (hnb 6 (by decide)).trans k6
  replace k7 := (hnb 7 (by decide)).trans k7
  replace hz4 := And.intro (hzb.1.trans hz4.1) (hzb.2.trans hz4.2)
  clear hzb hnb
  clear xp
  refine step_if (p := P16) (v := .pointer (some ⟨G 13, 4, none⟩)) (d := 107) rfl (by rw [hz4.1]; decide) (wanted_of rfl rfl rfl acc) (fun _ => (faFq4 rfl k6).trans (by rw [Nat.zero_add])) ?_
  intro b hzb hnb xf
  replace k6 := (hnb 6 (by decide)).trans k6
  replace k7 := (hnb 7 (by decide)).trans k7
  replace acc := (hnb 106 (by decide)).trans acc
  replace hz4 := And.intro (hzb.1.trans hz4.1) (hzb.2.trans hz4.2)
  clear hzb hnb
  refine step_if (p := P16) (v := .bool s.f.s) (d := 108) rfl (by rw [hz4.1]; decide) (wanted_of rfl rfl rfl acc) (fun hp => run_cell rfl (xf.trans (if_pos hp)) S6 Tryz.underlying4 rfl rfl) ?_
  intro b hzb hnb xv
  replace k6 := (hnb 6 (by decide)).trans k6
  replace k7 := (hnb 7 (by decide)).trans k7
  replace acc := (hnb 106 (by decide)).trans acc
  replace hz4 := And.intro (hzb.1.trans hz4.1) (hzb.2.trans hz4.2)
  clear hzb hnb
  clear xf
  refine step_if (p := P16) (v := .bool (!s.f.s)) (d := 109) rfl (by rw [hz4.1]; decide) (wanted_of rfl rfl rfl acc) (fun hp => not_b rfl (xv.trans (if_pos hp))) ?_
  intro b hzb hnb xb
  replace k6 := (hnb 6 (by decide)).trans k6
  replace k7 := (hnb 7 (by decide)).trans k7
  replace acc := (hnb 106 (by decide)).trans acc
  replace hz4 := And.intro (hzb.1.trans hz4.1) (hzb.2.trans hz4.2)
  clear hzb hnb
  clear xv
  refine step_do (v := .bool (P16 && !s.f.s)) (d := 110) rfl rfl (by rw [hz4.1]; decide) (run_pk rfl acc xb) ?_
  intro b hzb hnb xp
  replace k6 := (hnb 6 (by decide)).trans k6
  replace k7 := (hnb 7 (by decide)).trans k7
  replace hz4 := And.intro (hzb.1.trans hz4.1) (hzb.2.trans hz4.2)
  clear hzb hnb
  clear xb acc
  generalize hP17 : (P16 && !s.f.s) = P17 at xp
  refine step_do (v := .bool P17) (d := 111) rfl rfl (by rw [hz4.1]; decide) (run_mv rfl xp) ?_
  intro b hzb hnb acc
  replace k6 := (hnb 6 (by decide)).trans k6
  replace k7 := (hnb 7 (by decide)).trans k7
  replace hz4 := And.intro (hzb.1.trans hz4.1) (hzb.2.trans hz4.2)
  clear hzb hnb
  clear xp
  clear k6 S6
  refine step_if (p := P17) (v := .pointer (some ⟨G 14, 0, none⟩)) (d := 112) rfl (by rw [hz4.1]; decide) (wanted_of rfl rfl rfl acc) (fun _ => (faRk0 rfl k7).trans (by rw [Nat.zero_add])) ?_
  intro b hzb hnb xf
  replace k7 := (hnb 7 (by decide)).trans k7
  replace acc := (hnb 111 (by decide)).trans acc
  replace hz4 := And.intro (hzb.1.trans hz4.1) (hzb.2.trans hz4.2)
  clear hzb hnb
  refine step_if (p := P17) (v := .int .i64 s.r.S) (d := 113) rfl (by rw [hz4.1]; decide) (wanted_of rfl rfl rfl acc) (fun hp => run_cell rfl (xf.trans (if_pos hp)) S7 Tryz.underlying3 rfl rfl) ?_
  intro b hzb hnb xv
  replace k7 := (hnb 7 (by decide)).trans k7
  replace acc := (hnb 111 (by decide)).trans acc
  replace hz4 := And.intro (hzb.1.trans hz4.1) (hzb.2.trans hz4.2)
  clear hzb hnb
  clear xf
  refine step_if (p := P17) (v := .bool (decide (s.r.S = 0))) (d := 114) rfl (by rw [hz4.1]; decide) (wanted_of rfl rfl rfl acc) (fun hp => eq0i rfl (xv.trans (if_pos hp))) ?_
  intro b hzb hnb xb
  replace k7 := (hnb 7 (by decide)).trans k7
  replace acc := (hnb 111 (by decide)).trans acc
  replace hz4 := And.intro (hzb.1.trans hz4.1) (hzb.2.trans hz4.2)
  clear hzb hnb
  clear xv
  refine step_do (v := .bool (P17 && decide (s.r.S = 0))) (d := 115) rfl rfl (by rw [hz4.1]; decide) (run_pk rfl acc xb) ?_
  intro b hzb hnb xp
  replace k7 := (hnb 7 (by decide)).trans k7
  replace hz4 := And.intro (hzb.1.trans hz4.1) (hzb.2.trans hz4.2)
  clear hzb hnb
  clear xb acc
  generalize hP18 : (P17 && decide (s.r.S = 0)) = P18 at xp
  refine step_do (v := .bool P18) (d := 116) rfl rfl (by rw [hz4.1]; decide) (run_mv rfl xp) ?_
  intro b hzb hnb acc
  replace k7 := (hnb 7 (by decide)).trans k7
  replace hz4 := And.intro (hzb.1.trans hz4.1) (hzb.2.trans hz4.2)
  clear hzb hnb
  clear xp
  refine step_if (p := P18) (v := .pointer (some ⟨G 14, 1, none⟩)) (d := 117) rfl (by rw [hz4.1]; decide) (wanted_of rfl rfl rfl acc) (fun _ => (faRk1 rfl k7).trans (by rw [Nat.zero_add])) ?_
  intro b hzb hnb xf
  replace k7 := (hnb 7 (by decide)).trans k7
  replace acc := (hnb 116 (by decide)).trans acc
  replace hz4 := And.intro (hzb.1.trans hz4.1) (hzb.2.trans hz4.2)
  clear hzb hnb
  refine step_if (p := P18) (v := .int .i64 s.r.T) (d := 118) rfl (by rw [hz4.1]; decide) (wanted_of rfl rfl rfl acc) (fun hp => run_cell rfl (xf.trans (if_pos hp)) S7 Tryz.underlying3 rfl rfl) ?_
  intro b hzb hnb xv
  replace k7 := (hnb 7 (by decide)).trans k7
  replace acc := (hnb 116 (by decide)).trans acc
  replace hz4 := And.intro (hzb.1.trans hz4.1) (hzb.2.trans hz4.2)
  clear hzb hnb
  clear xf
  refine step_if (p := P18) (v := .bool (decide (s.r.T = 0))) (d := 119) rfl (by rw [hz4.1]; decide) (wanted_of rfl rfl rfl acc) (fun hp => eq0i rfl (xv.trans (if_pos hp))) ?_
  intro b hzb hnb xb
  replace k7 := (hnb 7 (by decide)).trans k7
  replace acc := (hnb 116 (by decide)).trans acc
  replace hz4 := And.intro (hzb.1.trans hz4.1) (hzb.2.trans hz4.2)
  clear hzb hnb
  clear xv
  refine step_do (v := .bool (P18 && decide (s.r.T = 0))) (d := 120) rfl rfl (by rw [hz4.1]; decide) (run_pk rfl acc xb) ?_
  intro b hzb hnb xp
  replace k7 := (hnb 7 (by decide)).trans k7
  replace hz4 := And.intro (hzb.1.trans hz4.1) (hzb.2.trans hz4.2)
  clear hzb hnb
  clear xb acc
  generalize hP19 : (P18 && decide (s.r.T = 0)) = P19 at xp
  refine step_do (v := .bool P19) (d := 121) rfl rfl (by rw [hz4.1]; decide) (run_mv rfl xp) ?_
  intro b hzb hnb acc
  replace k7 := (hnb 7 (by decide)).trans k7
  replace hz4 := And.intro (hzb.1.trans hz4.1) (hzb.2.trans hz4.2)
  clear hzb hnb
  clear xp
  refine step_if (p := P19) (v := .pointer (some ⟨G 14, 2, none⟩)) (d := 122) rfl (by rw [hz4.1]; decide) (wanted_of rfl rfl rfl acc) (fun _ => (faRk2 rfl k7).trans (by rw [Nat.zero_add])) ?_
  intro b hzb hnb xf
  replace k7 := (hnb 7 (by decide)).trans k7
  replace acc := (hnb 121 (by decide)).trans acc
  replace hz4 := And.intro (hzb.1.trans hz4.1) (hzb.2.trans hz4.2)
  clear hzb hnb
  refine step_if (p := P19) (v := .int .i64 s.r.K) (d := 123) rfl (by rw [hz4.1]; decide) (wanted_of rfl rfl rfl acc) (fun hp => run_cell rfl (xf.trans (if_pos hp)) S7 Tryz.underlying3 rfl rfl) ?_
  intro b hzb hnb xv
  replace k7 := (hnb 7 (by decide)).trans k7
  replace acc := (hnb 121 (by decide)).trans acc
  replace hz4 := And.intro (hzb.1.trans hz4.1) (hzb.2.trans hz4.2)
  clear hzb hnb
  clear xf
  refine step_if (p := P19) (v := .bool (decide (s.r.K = 0))) (d := 124) rfl (by rw [hz4.1]; decide) (wanted_of rfl rfl rfl acc) (fun hp => eq0i rfl (xv.trans (if_pos hp))) ?_
  intro b hzb hnb xb
  replace k7 := (hnb 7 (by decide)).trans k7
  replace acc := (hnb 121 (by decide)).trans acc
  replace hz4 := And.intro (hzb.1.trans hz4.1) (hzb.2.trans hz4.2)
  clear hzb hnb
  clear xv
  refine step_do (v := .bool (P19 && decide (s.r.K = 0))) (d := 125) rfl rfl (by rw [hz4.1]; decide) (run_pk rfl acc xb) ?_
  intro b hzb hnb xp
  replace k7 := (hnb 7 (by decide)).trans k7
  replace hz4 := And.intro (hzb.1.trans hz4.1) (hzb.2.trans hz4.2)
  clear hzb hnb
  clear xb acc
  generalize hP20 : (P19 && decide (s.r.K = 0)) = P20 at xp
  refine step_do (v := .bool P20) (d := 126) rfl rfl (by rw [hz4.1]; decide) (run_mv rfl xp) ?_
  intro b hzb hnb acc
  replace k7 := (hnb 7 (by decide)).trans k7
  replace hz4 := And.intro (hzb.1.trans hz4.1) (hzb.2.trans hz4.2)
  clear hzb hnb
  clear xp
  refine step_if (p := P20) (v := .pointer (some ⟨G 14, 3, none⟩)) (d := 127) rfl (by rw [hz4.1]; decide) (wanted_of rfl rfl rfl acc) (fun _ => (faRk3 rfl k7).trans (by rw [Nat.zero_add])) ?_
  intro b hzb hnb xf
  replace k7 := (hnb 7 (by decide)).trans k7
  replace acc := (hnb 126 (by decide)).trans acc
  replace hz4 := And.intro (hzb.1.trans hz4.1) (hzb.2.trans hz4.2)
  clear hzb hnb
  refine step_if (p := P20) (v := .slice a5 s.r.L.length c5) (d := 128) rfl (by rw [hz4.1]; decide) (wanted_of rfl rfl rfl acc) (fun hp => run_cell rfl (xf.trans (if_pos hp)) S7 Tryz.underlying44 rfl rfl) ?_
  intro b hzb hnb xv
  replace k7 := (hnb 7 (by decide)).trans k7
  replace acc := (hnb 126 (by decide)).trans acc
  replace hz4 := And.intro (hzb.1.trans hz4.1) (hzb.2.trans hz4.2)
  clear hzb hnb
  clear xf
  refine step_if (p := P20) (v := .int .i64 s.r.L.length) (d := 129) rfl (by rw [hz4.1]; decide) (wanted_of rfl rfl rfl acc) (fun hp => lenls rfl (xv.trans (if_pos hp))) ?_
  intro b hzb hnb xl
  replace k7 := (hnb 7 (by decide)).trans k7
  replace acc := (hnb 126 (by decide)).trans acc
  replace hz4 := And.intro (hzb.1.trans hz4.1) (hzb.2.trans hz4.2)
  clear hzb hnb
  clear xv
  refine step_if (p := P20) (v := .bool (decide ((s.r.L.length : Int) = 0))) (d := 130) rfl (by rw [hz4.1]; decide) (wanted_of rfl rfl rfl acc) (fun hp => eq0i rfl (xl.trans (if_pos hp))) ?_
  intro b hzb hnb xb
  replace k7 := (hnb 7 (by decide)).trans k7
  replace acc := (hnb 126 (by decide)).trans acc
  replace hz4 := And.intro (hzb.1.trans hz4.1) (hzb.2.trans hz4.2)
  clear hzb hnb
  clear xl
  refine step_do (v := .bool (P20 && decide ((s.r.L.length : Int) = 0))) (d := 131) rfl rfl (by rw [hz4.1]; decide) (run_pk rfl acc xb) ?_
  intro b hzb hnb xp
  replace k7 := (hnb 7 (by decide)).trans k7
  replace hz4 := And.intro (hzb.1.trans hz4.1) (hzb.2.trans hz4.2)
  clear hzb hnb
  clear xb acc
  generalize hP21 : (P20 && decide ((s.r.L.length : Int) = 0)) = P21 at xp
  refine step_do (v := .bool P21) (d := 132) rfl rfl (by rw [hz4.1]; decide) (run_mv rfl xp) ?_
  intro b hzb hnb acc
  replace k7 := (hnb 7 (by decide)).trans k7
  replace hz4 := And.intro (hzb.1.trans hz4.1) (hzb.2.trans hz4.2)
  clear hzb hnb
  clear xp
  refine step_if (p := P21) (v := .pointer (some ⟨G 14, 4, none⟩)) (d := 133) rfl (by rw [hz4.1]; decide) (wanted_of rfl rfl rfl acc) (fun _ => (faRk4 rfl k7).trans (by rw [Nat.zero_add])) ?_
  intro b hzb hnb xf
  replace k7 := (hnb 7 (by decide)).trans k7
  replace acc := (hnb 132 (by decide)).trans acc
  replace hz4 := And.intro (hzb.1.trans hz4.1) (hzb.2.trans hz4.2)
  clear hzb hnb
  refine step_if (p := P21) (v := .bool s.r.s) (d := 134) rfl (by rw [hz4.1]; decide) (wanted_of rfl rfl rfl acc) (fun hp => run_cell rfl (xf.trans (if_pos hp)) S7 Tryz.underlying4 rfl rfl) ?_
  intro b hzb hnb xv
  replace k7 := (hnb 7 (by decide)).trans k7
  replace acc := (hnb 132 (by decide)).trans acc
  replace hz4 := And.intro (hzb.1.trans hz4.1) (hzb.2.trans hz4.2)
  clear hzb hnb
  clear xf
  refine step_if (p := P21) (v := .bool (!s.r.s)) (d := 135) rfl (by rw [hz4.1]; decide) (wanted_of rfl rfl rfl acc) (fun hp => not_b rfl (xv.trans (if_pos hp))) ?_
  intro b hzb hnb xb
  replace k7 := (hnb 7 (by decide)).trans k7
  replace acc := (hnb 132 (by decide)).trans acc
  replace hz4 := And.intro (hzb.1.trans hz4.1) (hzb.2.trans hz4.2)
  clear hzb hnb
  clear xv
  refine step_do (v := .bool (P21 && !s.r.s)) (d := 136) rfl rfl (by rw [hz4.1]; decide) (run_pk rfl acc xb) ?_
  intro b hzb hnb xp
  replace k7 := (hnb 7 (by decide)).trans k7
  replace hz4 := And.intro (hzb.1.trans hz4.1) (hzb.2.trans hz4.2)
  clear hzb hnb
  clear xb acc
  generalize hP22 : (P21 && !s.r.s) = P22 at xp
  refine step_do (v := .bool P22) (d := 2) rfl rfl (by rw [hz4.1]; decide) (run_as rfl xp) ?_
  intro b hzb hnb xr
  replace hz4 := And.intro (hzb.1.trans hz4.1) (hzb.2.trans hz4.2)
  clear hzb hnb
  refine wp_ret ?_
  have hres : unuB s = P22 := by
    unfold unuB
    rw [← hP22, ← hP21, ← hP20, ← hP19, ← hP18, ← hP17, ← hP16, ← hP15, ← hP14, ← hP13, ← hP12, ← hP11, ← hP10, ← hP9, ← hP8, ← hP7, ← hP6, ← hP5, ← hP4, ← hP3, ← hP2, ← hP1, ← hP0]
    simp only [Int.natCast_eq_zero]
  refine bodyPost_ret (v := .bool P22) ?_ hz4.2 ⟨by rw [hres], hB⟩
  have hx : b.tmps[2]?.getD undef = .bool P22 := by rw [← xr]; simp [Act.eval]
  simp [results, Tryz.results66, go_sem, hx]
end Go.Proofs.YtjibbnknliamkaaGreatDoor
