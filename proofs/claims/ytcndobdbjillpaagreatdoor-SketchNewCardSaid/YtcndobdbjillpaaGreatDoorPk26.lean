/- Ins1: in one text. -/
import Derived.Test.YtcndobdbjillpaaGreatDoorPk22
import Derived.Test.YtcndobdbjillpaaGreatDoorPk25
namespace Go.Proofs.YtcndobdbjillpaaGreatDoor
open Go.RowKit
set_option linter.unusedVariables false
set_option linter.unusedSimpArgs false
theorem RdK.run {s : SK} {v : Value} {w : World} (h : RdK s v w) : ∃ a1 c1 a2 c2 a3 c3 a4 c4 a5 c5, v = .agg (skA s (.slice a1 s.c.L.length c1) (.slice a2 s.l.L.length c2) (.slice a3 s.t.L.length c3) (.slice a4 s.f.L.length c4) (.slice a5 s.r.L.length c5)) ∧ RowsK s (.slice a1 s.c.L.length c1) (.slice a2 s.l.L.length c2) (.slice a3 s.t.L.length c3) (.slice a4 s.f.L.length c4) (.slice a5 s.r.L.length c5) w := by
  obtain ⟨a1, n1, c1, a2, n2, c2, a3, n3, c3, a4, n4, c4, a5, n5, c5, hv, hr⟩ := h
  obtain ⟨_, _, e1⟩ := hr.1.shape
  obtain ⟨_, _, e2⟩ := hr.2.1.shape
  obtain ⟨_, _, e3⟩ := hr.2.2.1.shape
  obtain ⟨_, _, e4⟩ := hr.2.2.2.1.shape
  obtain ⟨_, _, e5⟩ := hr.2.2.2.2.shape
  simp only [Value.slice.injEq] at e1 e2 e3 e4 e5
  obtain ⟨rfl, rfl, rfl⟩ := e1
  obtain ⟨rfl, rfl, rfl⟩ := e2
  obtain ⟨rfl, rfl, rfl⟩ := e3
  obtain ⟨rfl, rfl, rfl⟩ := e4
  obtain ⟨rfl, rfl, rfl⟩ := e5
  exact ⟨_, _, _, _, _, _, _, _, _, _, hv, hr⟩
theorem results_cell_tmp2 {fn : Func} {p u z : Tmp} {ty : TypeId} (h : fn.results = #[.cell p ty, .tmp u, .tmp z]) (tmps : Array Value) (P : Program) (w : World) :
    (results fn tmps).run P w =
      ((asAddr (tmps.getD p undef)).run P w).andThen fun a w₁ => ((loadVar ty a).run P w₁).andThen fun v w₂ => .ok (.tuple #[v, tmps.getD u undef, tmps.getD z undef]) w₂ := by
  simp only [results, h]
  simp [Sem.run_bind, Result.andThen]
theorem ret_row3 {P : Program} {a : Act} {w : World} {fn : Func} {R : Ending → World → Prop} {p u z : Tmp} {T : TypeId} (h : fn.results = #[.cell p T, .tmp u, .tmp z]) {g : Nat} {A : Array Value} {x y : Value} (hp : a.tmps.getD p undef = .pointer (some ⟨g, 0, none⟩)) (hx : a.tmps.getD u undef = x) (hy : a.tmps.getD z undef = y) (hd : a.defers = []) (hc : RowAt g A w) {d : TypeDesc} (hu : P.underlying T = some d) (hr : d.isRow = true) (hi : (P.info? T).map (·.size) = some A.size) (hR : R (.returned (.tuple #[.agg A, x, y])) w) : bodyPost P fn R .ret a w := by
  obtain ⟨t, ht⟩ := hc
  refine bodyPost_ret (v := .tuple #[.agg A, x, y]) ?_ hd hR
  have hl := run_loadVar_row (P := P) w g t T A (0, 0) d ht hu (by cases d <;> simp_all) hi
  rw [results_cell_tmp2 h, hp, hx, hy]
  simp only [asAddr, Sem.run_pure, Result.andThen_ok, hl]
theorem pos_ok (n : Int) (w : World) (h0 : 0 ≤ n) (h1 : n ≤ 1073741824) :
    Calls Tryz.prog 68 #[.int .i64 n] w fun e w' => e = .returned (.bool true) ∧ w = w' := by
  have h2 : decide (0 ≤ n) = true := by simp [h0]
  have h3 : decide (n ≤ 1073741824) = true := by simp [h1]
  go_enter Tryz.func68, Tryz.ntmps68
  go_wp2
  all_goals
    go_ret
    exact ⟨ret_bool (by simp [*]), rfl⟩
set_option maxRecDepth 100000 in
set_option maxHeartbeats 2000000 in
theorem ins_t (s : SK) (a1 : Option Addr) (c1 : Nat) (a2 : Option Addr) (c2 : Nat) (a3 : Option Addr) (c3 : Nat) (a4 : Option Addr) (c4 : Nat) (a5 : Option Addr) (c5 : Nat) (ca : Option Addr) (cn cc : Nat) (k : ByteArray) (x at_ : Int) (w : World) (hk : s.k = 1) (hw : WfK s) (h : RowsK s (.slice a1 s.c.L.length c1) (.slice a2 s.l.L.length c2) (.slice a3 s.t.L.length c3) (.slice a4 s.f.L.length c4) (.slice a5 s.r.L.length c5) w) (hv : valK s = 0) (hks : k.size ≤ maxLen) (x0 : -9223372036854775808 ≤ x) (x1 : x ≤ 9223372036854775807) (hi : itemE (byt k) x = 0) (t0 : 0 ≤ at_) (t1 : at_ ≤ 1073741824) :
    Calls Tryz.prog 28 #[.agg (skA s (.slice a1 s.c.L.length c1) (.slice a2 s.l.L.length c2) (.slice a3 s.t.L.length c3) (.slice a4 s.f.L.length c4) (.slice a5 s.r.L.length c5)), .agg #[.string k, .int .i64 x], .slice ca cn cc, .int .i64 at_] w fun e w' =>
      e = .returned (.tuple #[.agg #[.int .i64 1, .int .i64 s.S, .int .i64 s.D, .int .u64 s.x, .int .i64 (sumT s.tT x), .int .i64 (sumT s.tI 1), .bool (s.tF || false || sumF s.tT x || sumF s.tI 1), .int .i64 0, .int .i64 0, .int .u64 0, .slice none 0 0, .bool false, .int .i64 0, .int .u64 0, .slice none 0 0, .int .i64 0, .int .i64 0, .slice none 0 0, .bool false, .int .i64 0, .int .i64 0, .int .i64 0, .slice none 0 0, .bool false, .int .i64 0, .int .i64 0, .int .i64 0, .slice none 0 0, .bool false], .int .i64 at_, .int .i64 0]) ∧ Below w.heap.size w w' := by
  have HV := Lib.hid (fun w' (hb : Below w.heap.size w w') => val_row s a1 c1 a2 c2 a3 c3 a4 c4 a5 c5 w' hw (h.below hb))
  rw [hv] at HV
  have hval : valT s.tT s.tI = 0 := by
    unfold valK at hv
    split at hv
    · exact absurd hv (by assumption)
    · split at hv
      · exact absurd hv (by assumption)
      · rename_i h1 h2
        have h3 : valF s = 0 := Classical.not_not.1 h2
        unfold valF at h3
        rw [if_pos hk] at h3
        exact h3
  have HI := Lib.hid (fun w => item_any k x w hks x0 x1)
  have HT := Lib.hid (fun w => tins_any s.tT s.tI x s.tF k w hw.tT.1 hw.tT.2 hw.tI.1 hw.tI.2 x0 x1 hks)
  rw [hi] at HI HT
  have HO := Lib.hid (fun w => pos_ok at_ w t0 t1)
  unfold insT at HT
  rw [if_neg (fun hn => hn hval), if_neg (fun hn => hn rfl)] at HT
  dsimp only at HT
  have HB : Hid (skA s (.slice a1 s.c.L.length c1) (.slice a2 s.l.L.length c2) (.slice a3 s.t.L.length c3) (.slice a4 s.f.L.length c4) (.slice a5 s.r.L.length c5) = #[.int .i64 s.k, .int .i64 s.S, .int .i64 s.D, .int .u64 s.x, .int .i64 s.tT, .int .i64 s.tI, .bool s.tF, .int .i64 s.c.D, .int .i64 s.c.S, .int .u64 s.c.x, .slice a1 s.c.L.length c1, .bool s.c.s, .int .i64 s.l.P, .int .u64 s.l.x, .slice a2 s.l.L.length c2, .int .i64 s.t.S, .int .i64 s.t.T, .slice a3 s.t.L.length c3, .bool s.t.s, .int .i64 s.f.S, .int .i64 s.f.T, .int .i64 s.f.K, .slice a4 s.f.L.length c4, .bool s.f.s, .int .i64 s.r.S, .int .i64 s.r.T, .int .i64 s.r.K, .slice a5 s.r.L.length c5, .bool s.r.s]) := Lib.hid rfl
  rw [HB.out] at HV ⊢
  rw [hk] at HV ⊢
  generalize sumT s.tT x = T1 at *
  generalize sumT s.tI 1 = I1 at *
  generalize (s.tF || false || sumF s.tT x || sumF s.tI 1) = F1 at *
  clear hk hw h hv hks x0 x1 hi t0 t1 hval HB
  generalize s.tF = p5 at *
  generalize s.S = g0 at *
  generalize s.D = g1 at *
  generalize s.x = g2 at *
  generalize s.tT = g3 at *
  generalize s.tI = g4 at *
  generalize s.c.D = g5 at *
  generalize s.c.S = g6 at *
  generalize s.c.x = g7 at *
  generalize s.c.s = g8 at *
  generalize s.l.P = g9 at *
  generalize s.l.x = g10 at *
  generalize s.t.S = g11 at *
  generalize s.t.T = g12 at *
  generalize s.t.s = g13 at *
  generalize s.f.S = g14 at *
  generalize s.f.T = g15 at *
  generalize s.f.K = g16 at *
  generalize s.f.s = g17 at *
  generalize s.r.S = g18 at *
  generalize s.r.T = g19 at *
  generalize s.r.K = g20 at *
  generalize s.r.s = g21 at *
  generalize s.c.L.length = g22 at *
  generalize s.l.L.length = g23 at *
  generalize s.t.L.length = g24 at *
  generalize s.f.L.length = g25 at *
  generalize s.r.L.length = g26 at *
  go_enter Tryz.func28, Tryz.ntmps28
  go_upto_region 1 with (fail)
  refine wp_genW (fun w1 => RowAt w.heap.size #[.int .i64 1, .int .i64 g0, .int .i64 g1, .int .u64 g2, .int .i64 g3, .int .i64 g4, .bool p5, .int .i64 g5, .int .i64 g6, .int .u64 g7, .slice a1 g22 c1, .bool g8, .int .i64 g9, .int .u64 g10, .slice a2 g23 c2, .int .i64 g11, .int .i64 g12, .slice a3 g24 c3, .bool g13, .int .i64 g14, .int .i64 g15, .int .i64 g16, .slice a4 g25 c4, .bool g17, .int .i64 g18, .int .i64 g19, .int .i64 g20, .slice a5 g26 c5, .bool g21] w1 ∧ RowAt (w.heap.size + 1) #[.string k, .int .i64 x] w1 ∧ RowAt (w.heap.size + 1 + 1) zcSk w1 ∧ Below w.heap.size w w1) ⟨((RowAt.new _ _ _).al _).al _, (RowAt.new1 _ _ _ _).al _, RowAt.new2 _ _ _ _ _, b3 _ _ _⟩ ?_
  rintro w1 ⟨r1, r2, r3, hb⟩
  have R1 := Lib.hid r1
  have Q1 := Lib.hid r2
  have Z1 := Lib.hid r3
  have B1 := Lib.hid hb
  clear r1 r2 r3 hb
  go_wp2_with (first
    | (refine ldSk (B := #[.int .i64 1, .int .i64 g0, .int .i64 g1, .int .u64 g2, .int .i64 g3, .int .i64 g4, .bool p5, .int .i64 g5, .int .i64 g6, .int .u64 g7, .slice a1 g22 c1, .bool g8, .int .i64 g9, .int .u64 g10, .slice a2 g23 c2, .int .i64 g11, .int .i64 g12, .slice a3 g24 c3, .bool g13, .int .i64 g14, .int .i64 g15, .int .i64 g16, .slice a4 g25 c4, .bool g17, .int .i64 g18, .int .i64 g19, .int .i64 g20, .slice a5 g26 c5, .bool g21]) rfl rfl rfl R1.out rfl (by kernel_rfl) ?_)
    | (go_at_call 19; (with_reducible refine (HV.out _ B1.out).mono ?_); rintro e w2 ⟨rfl, hb2⟩; have R2 := Lib.hid (R1.out.go hb2); have Q2 := Lib.hid (Q1.out.go hb2); have Z2 := Lib.hid (Z1.out.go hb2); have B2 := Lib.hid (bgo B1.out hb2); clear hb2 R1 Q1 Z1 B1)
    | (refine ldIt (B := #[.string k, .int .i64 x]) rfl rfl rfl Q2.out rfl (by kernel_rfl) ?_)
    | (go_at_call 67; (with_reducible refine (HI.out _).mono ?_); rintro e w3 ⟨rfl, hb2⟩; have R3 := Lib.hid (R2.out.go hb2); have Q3 := Lib.hid (Q2.out.go hb2); have Z3 := Lib.hid (Z2.out.go hb2); have B3 := Lib.hid (bgo B2.out hb2); clear hb2 R2 Q2 Z2 B2)
    | (go_at_call 68; (with_reducible refine (HO.out _).mono ?_); rintro e w' ⟨rfl, rfl⟩)
    | (refine ldPm (B := #[.int .i64 1, .int .i64 g0, .int .i64 g1, .int .u64 g2]) rfl rfl rfl R3.out rfl (by kernel_rfl) ?_)
    | (refine stPm (A' := #[.int .i64 1, .int .i64 g0, .int .i64 g1, .int .u64 g2, .int .i64 0, .int .i64 0, .bool false, .int .i64 0, .int .i64 0, .int .u64 0, .slice none 0 0, .bool false, .int .i64 0, .int .u64 0, .slice none 0 0, .int .i64 0, .int .i64 0, .slice none 0 0, .bool false, .int .i64 0, .int .i64 0, .int .i64 0, .slice none 0 0, .bool false, .int .i64 0, .int .i64 0, .int .i64 0, .slice none 0 0, .bool false]) rfl rfl rfl Z3.out rfl rfl (all_one rfl) (show 0 + 4 ≤ 29 by decide) (by kernel_rfl) ?_; intro w4 r4 o4; have Z4 := Lib.hid r4; have R4 := Lib.hid (R3.out.oth o4 (by omega)); have Q4 := Lib.hid (Q3.out.oth o4 (by omega)); have B4 := Lib.hid (B3.out.trans (o4.1.mono (by omega))); clear r4 o4 R3 Q3 Z3 B3)
    | (refine ldi (v := .int .i64 1) rfl rfl rfl R4.out rfl ?_)
    | (refine ldTa (B := #[.int .i64 g3, .int .i64 g4, .bool p5]) rfl rfl rfl R4.out rfl (by kernel_rfl) ?_)
    | (refine ldIt (B := #[.string k, .int .i64 x]) rfl rfl rfl Q4.out rfl (by kernel_rfl) ?_)
    | (go_at_call 69; (with_reducible refine (HT.out _).mono ?_); rintro e w5 ⟨rfl, hb2⟩; have Z5 := Lib.hid (Z4.out.go hb2); have B5 := Lib.hid (bgo B4.out hb2); clear hb2 R4 Q4 Z4 B4)
    | (refine stTa (A' := #[.int .i64 1, .int .i64 g0, .int .i64 g1, .int .u64 g2, .int .i64 T1, .int .i64 I1, .bool F1, .int .i64 0, .int .i64 0, .int .u64 0, .slice none 0 0, .bool false, .int .i64 0, .int .u64 0, .slice none 0 0, .int .i64 0, .int .i64 0, .slice none 0 0, .bool false, .int .i64 0, .int .i64 0, .int .i64 0, .slice none 0 0, .bool false, .int .i64 0, .int .i64 0, .int .i64 0, .slice none 0 0, .bool false]) rfl rfl rfl Z5.out rfl rfl (all_one rfl) (show 4 + 3 ≤ 29 by decide) (by kernel_rfl) ?_; intro w6 r6 o6; have Z6 := Lib.hid r6; have B6 := Lib.hid (B5.out.trans (o6.1.mono (by omega))); clear r6 o6 Z5 B5)
    | (refine ldSk (B := #[.int .i64 1, .int .i64 g0, .int .i64 g1, .int .u64 g2, .int .i64 T1, .int .i64 I1, .bool F1, .int .i64 0, .int .i64 0, .int .u64 0, .slice none 0 0, .bool false, .int .i64 0, .int .u64 0, .slice none 0 0, .int .i64 0, .int .i64 0, .slice none 0 0, .bool false, .int .i64 0, .int .i64 0, .int .i64 0, .slice none 0 0, .bool false, .int .i64 0, .int .i64 0, .int .i64 0, .slice none 0 0, .bool false]) rfl rfl rfl Z6.out rfl (by kernel_rfl) ?_)
    | (refine stWh rfl rfl rfl Z6.out rfl rfl rfl rfl ?_; intro w7 r7 o7; have Z7 := Lib.hid r7; have B7 := Lib.hid (B6.out.trans (o7.1.mono (by omega))); clear r7 o7 Z6 B6))
  exact ret_row3 Tryz.results28 rfl rfl rfl rfl Z7.out Tryz.underlying42 rfl infSk ⟨rfl, B7.out⟩
set_option maxRecDepth 100000 in
theorem units_t (A : Array Value) (hA : A[0]? = some (.int .i64 1)) (w : World) :
    Calls Tryz.prog 24 #[.agg A] w fun e w' => e = .returned (.int .i64 1) ∧ Below w.heap.size w w' := by
  go_enter Tryz.func24, Tryz.ntmps24
  go_upto_region 1 with (fail)
  refine wp_genW (fun w1 => RowAt w.heap.size A w1 ∧ Below w.heap.size w w1) ⟨RowAt.new _ _ _, b1 _⟩ ?_
  rintro w1 ⟨r1, hb⟩
  have R1 := Lib.hid r1
  have B1 := Lib.hid hb
  have HA := Lib.hid hA
  clear r1 hb hA
  go_wp2_with (refine ldi (v := .int .i64 1) rfl rfl rfl R1.out HA.out ?_)
  go_ret
  exact ⟨rfl, B1.out⟩
end Go.Proofs.YtcndobdbjillpaaGreatDoor
