/- SkF: in one text. -/
import Derived.Test.YtjibbnknliamkaaGreatDoorPg15
import Derived.Test.YtjibbnknliamkaaGreatDoorPg03
import Derived.Test.YtjibbnknliamkaaGreatDoorPg05
import Derived.Test.YtjibbnknliamkaaGreatDoorPg11
import Derived.Test.YtjibbnknliamkaaGreatDoorPg12
namespace Go.Proofs.YtjibbnknliamkaaGreatDoor
open Go.RowKit
set_option linter.unusedVariables false
set_option linter.unusedSimpArgs false
/-- What a sketch's numbers can be. -/
structure WfK (s : SK) : Prop where
  k : I64 s.k
  S : I64 s.S
  D : I64 s.D
  x : U64 s.x
  tT : I64 s.tT
  tI : I64 s.tI
  cD : I64 s.c.D
  cS : I64 s.c.S
  cx : U64 s.c.x
  lP : I64 s.l.P
  lx : U64 s.l.x
  tS : I64 s.t.S
  tt : I64 s.t.T
  tL : s.t.L.length ≤ 549755813888
  fL : s.f.L.length ≤ 549755813888
  rL : LOk s.r.L
/-- The error of the field of the kind. -/
def valF (s : SK) : Int :=
  if s.k = 1 then valT s.tT s.tI else if s.k = 2 then cmE s.c.D s.c.S s.c.L else if s.k = 3 then llE s.l.P s.l.L else if s.k = 4 then valE s.t.S s.t.T s.t.L
  else if s.k = 5 then valQ s.f.S s.f.T s.f.K s.f.L else if s.k = 6 then valR s.r.S s.r.T s.r.K s.r.L else 8
set_option maxRecDepth 100000 in
set_option maxHeartbeats 4000000 in
theorem vf_row (s : SK) (a1 : Option Addr) (n1 c1 : Nat) (a2 : Option Addr) (n2 c2 : Nat) (a3 : Option Addr) (n3 c3 : Nat) (a4 : Option Addr) (n4 c4 : Nat) (a5 : Option Addr) (n5 c5 : Nat) (w : World) (hw : WfK s) (h : RowsK s (.slice a1 n1 c1) (.slice a2 n2 c2) (.slice a3 n3 c3) (.slice a4 n4 c4) (.slice a5 n5 c5) w) :
    Calls Tryz.prog 64 #[.agg (skA s (.slice a1 n1 c1) (.slice a2 n2 c2) (.slice a3 n3 c3) (.slice a4 n4 c4) (.slice a5 n5 c5))] w fun e w' => e = .returned (.int .i64 (valF s)) ∧ Below w.heap.size w w' := by
  rcases kind_cases s.k with hk | hk | hk | hk | hk | hk | ⟨h1, h2, h3, h4, h5, h6⟩
  · have HV := Lib.hid (fun w' (hb : Below w.heap.size w w') => tval_any s.tT s.tI s.tF w' hw.tT.1 hw.tT.2 hw.tI.1 hw.tI.2)
    have HE : Hid (valF s = valT s.tT s.tI) := Lib.hid (by unfold valF; simp [hk])
    rw [HE.out]
    unfold skA
    rw [hk]
    clear hw h hk HE
    generalize valT s.tT s.tI = E at *
    generalize s.S = p0 at *
    generalize s.D = p1 at *
    generalize s.x = p2 at *
    generalize s.tT = p3 at *
    generalize s.tI = p4 at *
    generalize s.tF = p5 at *
    generalize s.c.D = p6 at *
    generalize s.c.S = p7 at *
    generalize s.c.x = p8 at *
    generalize s.c.s = p9 at *
    generalize s.l.P = p10 at *
    generalize s.l.x = p11 at *
    generalize s.t.S = p12 at *
    generalize s.t.T = p13 at *
    generalize s.t.s = p14 at *
    generalize s.f.S = p15 at *
    generalize s.f.T = p16 at *
    generalize s.f.K = p17 at *
    generalize s.f.s = p18 at *
    generalize s.r.S = p19 at *
    generalize s.r.T = p20 at *
    generalize s.r.K = p21 at *
    generalize s.r.s = p22 at *
    go_enter Tryz.func64, Tryz.ntmps64
    go_wp2_with (go_at_call 105; (with_reducible refine (HV.out _ (b1 _)).mono ?_); rintro e w2 ⟨rfl, hb2⟩; have B2 := Lib.hid (bgo (b1 _) hb2); clear hb2)
    go_ret
    exact ⟨rfl, B2.out⟩
  · have HV := Lib.hid (fun w' (hb : Below w.heap.size w w') => cval_any s.c.D s.c.S s.c.x s.c.L a1 n1 c1 s.c.s w' hw.cD.1 hw.cD.2 hw.cS.1 hw.cS.2 (h.1.below hb))
    have HE : Hid (valF s = cmE s.c.D s.c.S s.c.L) := Lib.hid (by unfold valF; simp [hk])
    rw [HE.out]
    unfold skA
    rw [hk]
    clear hw h hk HE
    generalize cmE s.c.D s.c.S s.c.L = E at *
    generalize s.S = p0 at *
    generalize s.D = p1 at *
    generalize s.x = p2 at *
    generalize s.tT = p3 at *
    generalize s.tI = p4 at *
    generalize s.tF = p5 at *
    generalize s.c.D = p6 at *
    generalize s.c.S = p7 at *
    generalize s.c.x = p8 at *
    generalize s.c.s = p9 at *
    generalize s.l.P = p10 at *
    generalize s.l.x = p11 at *
    generalize s.t.S = p12 at *
    generalize s.t.T = p13 at *
    generalize s.t.s = p14 at *
    generalize s.f.S = p15 at *
    generalize s.f.T = p16 at *
    generalize s.f.K = p17 at *
    generalize s.f.s = p18 at *
    generalize s.r.S = p19 at *
    generalize s.r.T = p20 at *
    generalize s.r.K = p21 at *
    generalize s.r.s = p22 at *
    go_enter Tryz.func64, Tryz.ntmps64
    go_wp2_with (go_at_call 106; (with_reducible refine (HV.out _ (b1 _)).mono ?_); rintro e w2 ⟨rfl, hb2⟩; have B2 := Lib.hid (bgo (b1 _) hb2); clear hb2)
    go_ret
    exact ⟨rfl, B2.out⟩
  · have HV := Lib.hid (fun w' (hb : Below w.heap.size w w') => lval_any s.l.P s.l.x s.l.L a2 n2 c2 w' (h.2.1.below hb))
    have HE : Hid (valF s = llE s.l.P s.l.L) := Lib.hid (by unfold valF; simp [hk])
    rw [HE.out]
    unfold skA
    rw [hk]
    clear hw h hk HE
    generalize llE s.l.P s.l.L = E at *
    generalize s.S = p0 at *
    generalize s.D = p1 at *
    generalize s.x = p2 at *
    generalize s.tT = p3 at *
    generalize s.tI = p4 at *
    generalize s.tF = p5 at *
    generalize s.c.D = p6 at *
    generalize s.c.S = p7 at *
    generalize s.c.x = p8 at *
    generalize s.c.s = p9 at *
    generalize s.l.P = p10 at *
    generalize s.l.x = p11 at *
    generalize s.t.S = p12 at *
    generalize s.t.T = p13 at *
    generalize s.t.s = p14 at *
    generalize s.f.S = p15 at *
    generalize s.f.T = p16 at *
    generalize s.f.K = p17 at *
    generalize s.f.s = p18 at *
    generalize s.r.S = p19 at *
    generalize s.r.T = p20 at *
    generalize s.r.K = p21 at *
    generalize s.r.s = p22 at *
    go_enter Tryz.func64, Tryz.ntmps64
    go_wp2_with (go_at_call 107; (with_reducible refine (HV.out _ (b1 _)).mono ?_); rintro e w2 ⟨rfl, hb2⟩; have B2 := Lib.hid (bgo (b1 _) hb2); clear hb2)
    go_ret
    exact ⟨rfl, B2.out⟩
  · have HV := Lib.hid (fun w' (hb : Below w.heap.size w w') => pval_any s.t.S s.t.T s.t.L s.t.s a3 n3 c3 w' hw.tS.1 hw.tS.2 hw.tt.1 hw.tt.2 (h.2.2.1.below hb) hw.tL)
    have HE : Hid (valF s = valE s.t.S s.t.T s.t.L) := Lib.hid (by unfold valF; simp [hk])
    rw [HE.out]
    unfold skA
    rw [hk]
    clear hw h hk HE
    generalize valE s.t.S s.t.T s.t.L = E at *
    generalize s.S = p0 at *
    generalize s.D = p1 at *
    generalize s.x = p2 at *
    generalize s.tT = p3 at *
    generalize s.tI = p4 at *
    generalize s.tF = p5 at *
    generalize s.c.D = p6 at *
    generalize s.c.S = p7 at *
    generalize s.c.x = p8 at *
    generalize s.c.s = p9 at *
    generalize s.l.P = p10 at *
    generalize s.l.x = p11 at *
    generalize s.t.S = p12 at *
    generalize s.t.T = p13 at *
    generalize s.t.s = p14 at *
    generalize s.f.S = p15 at *
    generalize s.f.T = p16 at *
    generalize s.f.K = p17 at *
    generalize s.f.s = p18 at *
    generalize s.r.S = p19 at *
    generalize s.r.T = p20 at *
    generalize s.r.K = p21 at *
    generalize s.r.s = p22 at *
    go_enter Tryz.func64, Tryz.ntmps64
    go_wp2_with (go_at_call 108; (with_reducible refine (HV.out _ (b1 _)).mono ?_); rintro e w2 ⟨rfl, hb2⟩; have B2 := Lib.hid (bgo (b1 _) hb2); clear hb2)
    go_ret
    exact ⟨rfl, B2.out⟩
  · have HV := Lib.hid (fun w' (hb : Below w.heap.size w w') => pvalQ_any s.f.S s.f.T s.f.K s.f.L s.f.s a4 n4 c4 w' (h.2.2.2.1.below hb) hw.fL)
    have HE : Hid (valF s = valQ s.f.S s.f.T s.f.K s.f.L) := Lib.hid (by unfold valF; simp [hk])
    rw [HE.out]
    unfold skA
    rw [hk]
    clear hw h hk HE
    generalize valQ s.f.S s.f.T s.f.K s.f.L = E at *
    generalize s.S = p0 at *
    generalize s.D = p1 at *
    generalize s.x = p2 at *
    generalize s.tT = p3 at *
    generalize s.tI = p4 at *
    generalize s.tF = p5 at *
    generalize s.c.D = p6 at *
    generalize s.c.S = p7 at *
    generalize s.c.x = p8 at *
    generalize s.c.s = p9 at *
    generalize s.l.P = p10 at *
    generalize s.l.x = p11 at *
    generalize s.t.S = p12 at *
    generalize s.t.T = p13 at *
    generalize s.t.s = p14 at *
    generalize s.f.S = p15 at *
    generalize s.f.T = p16 at *
    generalize s.f.K = p17 at *
    generalize s.f.s = p18 at *
    generalize s.r.S = p19 at *
    generalize s.r.T = p20 at *
    generalize s.r.K = p21 at *
    generalize s.r.s = p22 at *
    go_enter Tryz.func64, Tryz.ntmps64
    go_wp2_with (go_at_call 109; (with_reducible refine (HV.out _ (b1 _)).mono ?_); rintro e w2 ⟨rfl, hb2⟩; have B2 := Lib.hid (bgo (b1 _) hb2); clear hb2)
    go_ret
    exact ⟨rfl, B2.out⟩
  · have HV := Lib.hid (fun w' (hb : Below w.heap.size w w') => pvalR_any s.r.S s.r.T s.r.K s.r.L s.r.s a5 n5 c5 w' (h.2.2.2.2.below hb) hw.rL)
    have HE : Hid (valF s = valR s.r.S s.r.T s.r.K s.r.L) := Lib.hid (by unfold valF; simp [hk])
    rw [HE.out]
    unfold skA
    rw [hk]
    clear hw h hk HE
    generalize valR s.r.S s.r.T s.r.K s.r.L = E at *
    generalize s.S = p0 at *
    generalize s.D = p1 at *
    generalize s.x = p2 at *
    generalize s.tT = p3 at *
    generalize s.tI = p4 at *
    generalize s.tF = p5 at *
    generalize s.c.D = p6 at *
    generalize s.c.S = p7 at *
    generalize s.c.x = p8 at *
    generalize s.c.s = p9 at *
    generalize s.l.P = p10 at *
    generalize s.l.x = p11 at *
    generalize s.t.S = p12 at *
    generalize s.t.T = p13 at *
    generalize s.t.s = p14 at *
    generalize s.f.S = p15 at *
    generalize s.f.T = p16 at *
    generalize s.f.K = p17 at *
    generalize s.f.s = p18 at *
    generalize s.r.S = p19 at *
    generalize s.r.T = p20 at *
    generalize s.r.K = p21 at *
    generalize s.r.s = p22 at *
    go_enter Tryz.func64, Tryz.ntmps64
    go_wp2_with (go_at_call 110; (with_reducible refine (HV.out _ (b1 _)).mono ?_); rintro e w2 ⟨rfl, hb2⟩; have B2 := Lib.hid (bgo (b1 _) hb2); clear hb2)
    go_ret
    exact ⟨rfl, B2.out⟩
  · have HE : Hid (valF s = 8) := Lib.hid (by unfold valF; simp [h1, h2, h3, h4, h5, h6])
    rw [HE.out]
    unfold skA
    clear hw h HE
    generalize s.k = k at *
    generalize s.S = p0 at *
    generalize s.D = p1 at *
    generalize s.x = p2 at *
    generalize s.tT = p3 at *
    generalize s.tI = p4 at *
    generalize s.tF = p5 at *
    generalize s.c.D = p6 at *
    generalize s.c.S = p7 at *
    generalize s.c.x = p8 at *
    generalize s.c.s = p9 at *
    generalize s.l.P = p10 at *
    generalize s.l.x = p11 at *
    generalize s.t.S = p12 at *
    generalize s.t.T = p13 at *
    generalize s.t.s = p14 at *
    generalize s.f.S = p15 at *
    generalize s.f.T = p16 at *
    generalize s.f.K = p17 at *
    generalize s.f.s = p18 at *
    generalize s.r.S = p19 at *
    generalize s.r.T = p20 at *
    generalize s.r.K = p21 at *
    generalize s.r.s = p22 at *
    go_enter Tryz.func64, Tryz.ntmps64
    go_wp2
    go_ret
    exact ⟨rfl, b1 _⟩
/-- A sketch with the field of its kind set to zero. -/
def woK (s : SK) : SK :=
  { s with
    tT := if s.k = 1 then 0 else s.tT, tI := if s.k = 1 then 0 else s.tI, tF := if s.k = 1 then false else s.tF
    c := if s.k = 2 then CM.none else s.c, l := if s.k = 3 then LL.none else s.l, t := if s.k = 4 then TP.none else s.t, f := if s.k = 5 then FQ.none else s.f, r := if s.k = 6 then RK.none else s.r }
def woA (s : SK) (v1 v2 v3 v4 v5 : Value) : Array Value :=
  skA (woK s) (if s.k = 2 then .slice none 0 0 else v1) (if s.k = 3 then .slice none 0 0 else v2) (if s.k = 4 then .slice none 0 0 else v3) (if s.k = 5 then .slice none 0 0 else v4) (if s.k = 6 then .slice none 0 0 else v5)
set_option maxRecDepth 100000 in
set_option maxHeartbeats 2000000 in
theorem wo_k1 (s : SK) (a1 : Option Addr) (n1 c1 : Nat) (a2 : Option Addr) (n2 c2 : Nat) (a3 : Option Addr) (n3 c3 : Nat) (a4 : Option Addr) (n4 c4 : Nat) (a5 : Option Addr) (n5 c5 : Nat) (w : World) :
    Calls Tryz.prog 67 #[.agg #[.int .i64 1, .int .i64 s.S, .int .i64 s.D, .int .u64 s.x, .int .i64 s.tT, .int .i64 s.tI, .bool s.tF, .int .i64 s.c.D, .int .i64 s.c.S, .int .u64 s.c.x, .slice a1 n1 c1, .bool s.c.s, .int .i64 s.l.P, .int .u64 s.l.x, .slice a2 n2 c2, .int .i64 s.t.S, .int .i64 s.t.T, .slice a3 n3 c3, .bool s.t.s, .int .i64 s.f.S, .int .i64 s.f.T, .int .i64 s.f.K, .slice a4 n4 c4, .bool s.f.s, .int .i64 s.r.S, .int .i64 s.r.T, .int .i64 s.r.K, .slice a5 n5 c5, .bool s.r.s]] w fun e w' => e = .returned (.agg #[.int .i64 1, .int .i64 s.S, .int .i64 s.D, .int .u64 s.x, .int .i64 0, .int .i64 0, .bool false, .int .i64 s.c.D, .int .i64 s.c.S, .int .u64 s.c.x, .slice a1 n1 c1, .bool s.c.s, .int .i64 s.l.P, .int .u64 s.l.x, .slice a2 n2 c2, .int .i64 s.t.S, .int .i64 s.t.T, .slice a3 n3 c3, .bool s.t.s, .int .i64 s.f.S, .int .i64 s.f.T, .int .i64 s.f.K, .slice a4 n4 c4, .bool s.f.s, .int .i64 s.r.S, .int .i64 s.r.T, .int .i64 s.r.K, .slice a5 n5 c5, .bool s.r.s]) ∧ Below w.heap.size w w' := by
  go_enter Tryz.func67, Tryz.ntmps67
  go_upto_region 1 with (fail)
  refine wp_genW (fun w1 => RowAt w.heap.size #[.int .i64 1, .int .i64 s.S, .int .i64 s.D, .int .u64 s.x, .int .i64 s.tT, .int .i64 s.tI, .bool s.tF, .int .i64 s.c.D, .int .i64 s.c.S, .int .u64 s.c.x, .slice a1 n1 c1, .bool s.c.s, .int .i64 s.l.P, .int .u64 s.l.x, .slice a2 n2 c2, .int .i64 s.t.S, .int .i64 s.t.T, .slice a3 n3 c3, .bool s.t.s, .int .i64 s.f.S, .int .i64 s.f.T, .int .i64 s.f.K, .slice a4 n4 c4, .bool s.f.s, .int .i64 s.r.S, .int .i64 s.r.T, .int .i64 s.r.K, .slice a5 n5 c5, .bool s.r.s] w1 ∧ RowAt (w.heap.size + 1) zcSk w1 ∧ Below w.heap.size w w1) ⟨(RowAt.new _ _ _).al _, RowAt.new1 _ _ _ _, b2 _ _⟩ ?_
  rintro w1 ⟨r1, r2, hb⟩
  have R1 := Lib.hid r1
  have R2 := Lib.hid r2
  have B1 := Lib.hid hb
  clear r1 r2 hb
  go_wp2_with (first
    | (refine ldi rfl rfl rfl (v := .int .i64 1) R1.out rfl ?_)
    | (refine stTa (A' := #[.int .i64 1, .int .i64 s.S, .int .i64 s.D, .int .u64 s.x, .int .i64 0, .int .i64 0, .bool false, .int .i64 s.c.D, .int .i64 s.c.S, .int .u64 s.c.x, .slice a1 n1 c1, .bool s.c.s, .int .i64 s.l.P, .int .u64 s.l.x, .slice a2 n2 c2, .int .i64 s.t.S, .int .i64 s.t.T, .slice a3 n3 c3, .bool s.t.s, .int .i64 s.f.S, .int .i64 s.f.T, .int .i64 s.f.K, .slice a4 n4 c4, .bool s.f.s, .int .i64 s.r.S, .int .i64 s.r.T, .int .i64 s.r.K, .slice a5 n5 c5, .bool s.r.s]) rfl rfl rfl R1.out rfl rfl (all_one rfl) (show 4 + 3 ≤ 29 by decide) (by kernel_rfl) ?_; intro w2 r1 o2; have R3 := Lib.hid r1; have R4 := Lib.hid (R2.out.oth o2 (Nat.succ_ne_self _)); have B3 := Lib.hid (B1.out.trans o2.1); clear r1 o2 R1 R2 B1)
    | (refine ldSk (B := #[.int .i64 1, .int .i64 s.S, .int .i64 s.D, .int .u64 s.x, .int .i64 0, .int .i64 0, .bool false, .int .i64 s.c.D, .int .i64 s.c.S, .int .u64 s.c.x, .slice a1 n1 c1, .bool s.c.s, .int .i64 s.l.P, .int .u64 s.l.x, .slice a2 n2 c2, .int .i64 s.t.S, .int .i64 s.t.T, .slice a3 n3 c3, .bool s.t.s, .int .i64 s.f.S, .int .i64 s.f.T, .int .i64 s.f.K, .slice a4 n4 c4, .bool s.f.s, .int .i64 s.r.S, .int .i64 s.r.T, .int .i64 s.r.K, .slice a5 n5 c5, .bool s.r.s]) rfl rfl rfl R3.out rfl (by kernel_rfl) ?_)
    | (refine stWh rfl rfl rfl R4.out rfl rfl rfl rfl ?_; intro w5 r5 o5; have R5 := Lib.hid r5; have B5 := Lib.hid (B3.out.trans (o5.1.mono (Nat.le_succ _))); clear r5 o5))
  exact ret_row Tryz.results67 rfl rfl R5.out Tryz.underlying48 rfl infSk ⟨rfl, B5.out⟩
set_option maxRecDepth 100000 in
set_option maxHeartbeats 2000000 in
theorem wo_k2 (s : SK) (a1 : Option Addr) (n1 c1 : Nat) (a2 : Option Addr) (n2 c2 : Nat) (a3 : Option Addr) (n3 c3 : Nat) (a4 : Option Addr) (n4 c4 : Nat) (a5 : Option Addr) (n5 c5 : Nat) (w : World) :
    Calls Tryz.prog 67 #[.agg #[.int .i64 2, .int .i64 s.S, .int .i64 s.D, .int .u64 s.x, .int .i64 s.tT, .int .i64 s.tI, .bool s.tF, .int .i64 s.c.D, .int .i64 s.c.S, .int .u64 s.c.x, .slice a1 n1 c1, .bool s.c.s, .int .i64 s.l.P, .int .u64 s.l.x, .slice a2 n2 c2, .int .i64 s.t.S, .int .i64 s.t.T, .slice a3 n3 c3, .bool s.t.s, .int .i64 s.f.S, .int .i64 s.f.T, .int .i64 s.f.K, .slice a4 n4 c4, .bool s.f.s, .int .i64 s.r.S, .int .i64 s.r.T, .int .i64 s.r.K, .slice a5 n5 c5, .bool s.r.s]] w fun e w' => e = .returned (.agg #[.int .i64 2, .int .i64 s.S, .int .i64 s.D, .int .u64 s.x, .int .i64 s.tT, .int .i64 s.tI, .bool s.tF, .int .i64 0, .int .i64 0, .int .u64 0, .slice none 0 0, .bool false, .int .i64 s.l.P, .int .u64 s.l.x, .slice a2 n2 c2, .int .i64 s.t.S, .int .i64 s.t.T, .slice a3 n3 c3, .bool s.t.s, .int .i64 s.f.S, .int .i64 s.f.T, .int .i64 s.f.K, .slice a4 n4 c4, .bool s.f.s, .int .i64 s.r.S, .int .i64 s.r.T, .int .i64 s.r.K, .slice a5 n5 c5, .bool s.r.s]) ∧ Below w.heap.size w w' := by
  go_enter Tryz.func67, Tryz.ntmps67
  go_upto_region 1 with (fail)
  refine wp_genW (fun w1 => RowAt w.heap.size #[.int .i64 2, .int .i64 s.S, .int .i64 s.D, .int .u64 s.x, .int .i64 s.tT, .int .i64 s.tI, .bool s.tF, .int .i64 s.c.D, .int .i64 s.c.S, .int .u64 s.c.x, .slice a1 n1 c1, .bool s.c.s, .int .i64 s.l.P, .int .u64 s.l.x, .slice a2 n2 c2, .int .i64 s.t.S, .int .i64 s.t.T, .slice a3 n3 c3, .bool s.t.s, .int .i64 s.f.S, .int .i64 s.f.T, .int .i64 s.f.K, .slice a4 n4 c4, .bool s.f.s, .int .i64 s.r.S, .int .i64 s.r.T, .int .i64 s.r.K, .slice a5 n5 c5, .bool s.r.s] w1 ∧ RowAt (w.heap.size + 1) zcSk w1 ∧ Below w.heap.size w w1) ⟨(RowAt.new _ _ _).al _, RowAt.new1 _ _ _ _, b2 _ _⟩ ?_
  rintro w1 ⟨r1, r2, hb⟩
  have R1 := Lib.hid r1
  have R2 := Lib.hid r2
  have B1 := Lib.hid hb
  clear r1 r2 hb
  go_wp2_with (first
    | (refine ldi rfl rfl rfl (v := .int .i64 2) R1.out rfl ?_)
    | (refine stCm (A' := #[.int .i64 2, .int .i64 s.S, .int .i64 s.D, .int .u64 s.x, .int .i64 s.tT, .int .i64 s.tI, .bool s.tF, .int .i64 0, .int .i64 0, .int .u64 0, .slice none 0 0, .bool false, .int .i64 s.l.P, .int .u64 s.l.x, .slice a2 n2 c2, .int .i64 s.t.S, .int .i64 s.t.T, .slice a3 n3 c3, .bool s.t.s, .int .i64 s.f.S, .int .i64 s.f.T, .int .i64 s.f.K, .slice a4 n4 c4, .bool s.f.s, .int .i64 s.r.S, .int .i64 s.r.T, .int .i64 s.r.K, .slice a5 n5 c5, .bool s.r.s]) rfl rfl rfl R1.out rfl rfl (all_one rfl) (show 7 + 5 ≤ 29 by decide) (by kernel_rfl) ?_; intro w2 r1 o2; have R3 := Lib.hid r1; have R4 := Lib.hid (R2.out.oth o2 (Nat.succ_ne_self _)); have B3 := Lib.hid (B1.out.trans o2.1); clear r1 o2 R1 R2 B1)
    | (refine ldSk (B := #[.int .i64 2, .int .i64 s.S, .int .i64 s.D, .int .u64 s.x, .int .i64 s.tT, .int .i64 s.tI, .bool s.tF, .int .i64 0, .int .i64 0, .int .u64 0, .slice none 0 0, .bool false, .int .i64 s.l.P, .int .u64 s.l.x, .slice a2 n2 c2, .int .i64 s.t.S, .int .i64 s.t.T, .slice a3 n3 c3, .bool s.t.s, .int .i64 s.f.S, .int .i64 s.f.T, .int .i64 s.f.K, .slice a4 n4 c4, .bool s.f.s, .int .i64 s.r.S, .int .i64 s.r.T, .int .i64 s.r.K, .slice a5 n5 c5, .bool s.r.s]) rfl rfl rfl R3.out rfl (by kernel_rfl) ?_)
    | (refine stWh rfl rfl rfl R4.out rfl rfl rfl rfl ?_; intro w5 r5 o5; have R5 := Lib.hid r5; have B5 := Lib.hid (B3.out.trans (o5.1.mono (Nat.le_succ _))); clear r5 o5))
  exact ret_row Tryz.results67 rfl rfl R5.out Tryz.underlying48 rfl infSk ⟨rfl, B5.out⟩
set_option maxRecDepth 100000 in
set_option maxHeartbeats 2000000 in
theorem wo_k3 (s : SK) (a1 : Option Addr) (n1 c1 : Nat) (a2 : Option Addr) (n2 c2 : Nat) (a3 : Option Addr) (n3 c3 : Nat) (a4 : Option Addr) (n4 c4 : Nat) (a5 : Option Addr) (n5 c5 : Nat) (w : World) :
    Calls Tryz.prog 67 #[.agg #[.int .i64 3, .int .i64 s.S, .int .i64 s.D, .int .u64 s.x, .int .i64 s.tT, .int .i64 s.tI, .bool s.tF, .int .i64 s.c.D, .int .i64 s.c.S, .int .u64 s.c.x, .slice a1 n1 c1, .bool s.c.s, .int .i64 s.l.P, .int .u64 s.l.x, .slice a2 n2 c2, .int .i64 s.t.S, .int .i64 s.t.T, .slice a3 n3 c3, .bool s.t.s, .int .i64 s.f.S, .int .i64 s.f.T, .int .i64 s.f.K, .slice a4 n4 c4, .bool s.f.s, .int .i64 s.r.S, .int .i64 s.r.T, .int .i64 s.r.K, .slice a5 n5 c5, .bool s.r.s]] w fun e w' => e = .returned (.agg #[.int .i64 3, .int .i64 s.S, .int .i64 s.D, .int .u64 s.x, .int .i64 s.tT, .int .i64 s.tI, .bool s.tF, .int .i64 s.c.D, .int .i64 s.c.S, .int .u64 s.c.x, .slice a1 n1 c1, .bool s.c.s, .int .i64 0, .int .u64 0, .slice none 0 0, .int .i64 s.t.S, .int .i64 s.t.T, .slice a3 n3 c3, .bool s.t.s, .int .i64 s.f.S, .int .i64 s.f.T, .int .i64 s.f.K, .slice a4 n4 c4, .bool s.f.s, .int .i64 s.r.S, .int .i64 s.r.T, .int .i64 s.r.K, .slice a5 n5 c5, .bool s.r.s]) ∧ Below w.heap.size w w' := by
  go_enter Tryz.func67, Tryz.ntmps67
  go_upto_region 1 with (fail)
  refine wp_genW (fun w1 => RowAt w.heap.size #[.int .i64 3, .int .i64 s.S, .int .i64 s.D, .int .u64 s.x, .int .i64 s.tT, .int .i64 s.tI, .bool s.tF, .int .i64 s.c.D, .int .i64 s.c.S, .int .u64 s.c.x, .slice a1 n1 c1, .bool s.c.s, .int .i64 s.l.P, .int .u64 s.l.x, .slice a2 n2 c2, .int .i64 s.t.S, .int .i64 s.t.T, .slice a3 n3 c3, .bool s.t.s, .int .i64 s.f.S, .int .i64 s.f.T, .int .i64 s.f.K, .slice a4 n4 c4, .bool s.f.s, .int .i64 s.r.S, .int .i64 s.r.T, .int .i64 s.r.K, .slice a5 n5 c5, .bool s.r.s] w1 ∧ RowAt (w.heap.size + 1) zcSk w1 ∧ Below w.heap.size w w1) ⟨(RowAt.new _ _ _).al _, RowAt.new1 _ _ _ _, b2 _ _⟩ ?_
  rintro w1 ⟨r1, r2, hb⟩
  have R1 := Lib.hid r1
  have R2 := Lib.hid r2
  have B1 := Lib.hid hb
  clear r1 r2 hb
  go_wp2_with (first
    | (refine ldi rfl rfl rfl (v := .int .i64 3) R1.out rfl ?_)
    | (refine stLl (A' := #[.int .i64 3, .int .i64 s.S, .int .i64 s.D, .int .u64 s.x, .int .i64 s.tT, .int .i64 s.tI, .bool s.tF, .int .i64 s.c.D, .int .i64 s.c.S, .int .u64 s.c.x, .slice a1 n1 c1, .bool s.c.s, .int .i64 0, .int .u64 0, .slice none 0 0, .int .i64 s.t.S, .int .i64 s.t.T, .slice a3 n3 c3, .bool s.t.s, .int .i64 s.f.S, .int .i64 s.f.T, .int .i64 s.f.K, .slice a4 n4 c4, .bool s.f.s, .int .i64 s.r.S, .int .i64 s.r.T, .int .i64 s.r.K, .slice a5 n5 c5, .bool s.r.s]) rfl rfl rfl R1.out rfl rfl (all_one rfl) (show 12 + 3 ≤ 29 by decide) (by kernel_rfl) ?_; intro w2 r1 o2; have R3 := Lib.hid r1; have R4 := Lib.hid (R2.out.oth o2 (Nat.succ_ne_self _)); have B3 := Lib.hid (B1.out.trans o2.1); clear r1 o2 R1 R2 B1)
    | (refine ldSk (B := #[.int .i64 3, .int .i64 s.S, .int .i64 s.D, .int .u64 s.x, .int .i64 s.tT, .int .i64 s.tI, .bool s.tF, .int .i64 s.c.D, .int .i64 s.c.S, .int .u64 s.c.x, .slice a1 n1 c1, .bool s.c.s, .int .i64 0, .int .u64 0, .slice none 0 0, .int .i64 s.t.S, .int .i64 s.t.T, .slice a3 n3 c3, .bool s.t.s, .int .i64 s.f.S, .int .i64 s.f.T, .int .i64 s.f.K, .slice a4 n4 c4, .bool s.f.s, .int .i64 s.r.S, .int .i64 s.r.T, .int .i64 s.r.K, .slice a5 n5 c5, .bool s.r.s]) rfl rfl rfl R3.out rfl (by kernel_rfl) ?_)
    | (refine stWh rfl rfl rfl R4.out rfl rfl rfl rfl ?_; intro w5 r5 o5; have R5 := Lib.hid r5; have B5 := Lib.hid (B3.out.trans (o5.1.mono (Nat.le_succ _))); clear r5 o5))
  exact ret_row Tryz.results67 rfl rfl R5.out Tryz.underlying48 rfl infSk ⟨rfl, B5.out⟩
set_option maxRecDepth 100000 in
set_option maxHeartbeats 2000000 in
theorem wo_k4 (s : SK) (a1 : Option Addr) (n1 c1 : Nat) (a2 : Option Addr) (n2 c2 : Nat) (a3 : Option Addr) (n3 c3 : Nat) (a4 : Option Addr) (n4 c4 : Nat) (a5 : Option Addr) (n5 c5 : Nat) (w : World) :
    Calls Tryz.prog 67 #[.agg #[.int .i64 4, .int .i64 s.S, .int .i64 s.D, .int .u64 s.x, .int .i64 s.tT, .int .i64 s.tI, .bool s.tF, .int .i64 s.c.D, .int .i64 s.c.S, .int .u64 s.c.x, .slice a1 n1 c1, .bool s.c.s, .int .i64 s.l.P, .int .u64 s.l.x, .slice a2 n2 c2, .int .i64 s.t.S, .int .i64 s.t.T, .slice a3 n3 c3, .bool s.t.s, .int .i64 s.f.S, .int .i64 s.f.T, .int .i64 s.f.K, .slice a4 n4 c4, .bool s.f.s, .int .i64 s.r.S, .int .i64 s.r.T, .int .i64 s.r.K, .slice a5 n5 c5, .bool s.r.s]] w fun e w' => e = .returned (.agg #[.int .i64 4, .int .i64 s.S, .int .i64 s.D, .int .u64 s.x, .int .i64 s.tT, .int .i64 s.tI, .bool s.tF, .int .i64 s.c.D, .int .i64 s.c.S, .int .u64 s.c.x, .slice a1 n1 c1, .bool s.c.s, .int .i64 s.l.P, .int .u64 s.l.x, .slice a2 n2 c2, .int .i64 0, .int .i64 0, .slice none 0 0, .bool false, .int .i64 s.f.S, .int .i64 s.f.T, .int .i64 s.f.K, .slice a4 n4 c4, .bool s.f.s, .int .i64 s.r.S, .int .i64 s.r.T, .int .i64 s.r.K, .slice a5 n5 c5, .bool s.r.s]) ∧ Below w.heap.size w w' := by
  go_enter Tryz.func67, Tryz.ntmps67
  go_upto_region 1 with (fail)
  refine wp_genW (fun w1 => RowAt w.heap.size #[.int .i64 4, .int .i64 s.S, .int .i64 s.D, .int .u64 s.x, .int .i64 s.tT, .int .i64 s.tI, .bool s.tF, .int .i64 s.c.D, .int .i64 s.c.S, .int .u64 s.c.x, .slice a1 n1 c1, .bool s.c.s, .int .i64 s.l.P, .int .u64 s.l.x, .slice a2 n2 c2, .int .i64 s.t.S, .int .i64 s.t.T, .slice a3 n3 c3, .bool s.t.s, .int .i64 s.f.S, .int .i64 s.f.T, .int .i64 s.f.K, .slice a4 n4 c4, .bool s.f.s, .int .i64 s.r.S, .int .i64 s.r.T, .int .i64 s.r.K, .slice a5 n5 c5, .bool s.r.s] w1 ∧ RowAt (w.heap.size + 1) zcSk w1 ∧ Below w.heap.size w w1) ⟨(RowAt.new _ _ _).al _, RowAt.new1 _ _ _ _, b2 _ _⟩ ?_
  rintro w1 ⟨r1, r2, hb⟩
  have R1 := Lib.hid r1
  have R2 := Lib.hid r2
  have B1 := Lib.hid hb
  clear r1 r2 hb
  go_wp2_with (first
    | (refine ldi rfl rfl rfl (v := .int .i64 4) R1.out rfl ?_)
    | (refine stTo (A' := #[.int .i64 4, .int .i64 s.S, .int .i64 s.D, .int .u64 s.x, .int .i64 s.tT, .int .i64 s.tI, .bool s.tF, .int .i64 s.c.D, .int .i64 s.c.S, .int .u64 s.c.x, .slice a1 n1 c1, .bool s.c.s, .int .i64 s.l.P, .int .u64 s.l.x, .slice a2 n2 c2, .int .i64 0, .int .i64 0, .slice none 0 0, .bool false, .int .i64 s.f.S, .int .i64 s.f.T, .int .i64 s.f.K, .slice a4 n4 c4, .bool s.f.s, .int .i64 s.r.S, .int .i64 s.r.T, .int .i64 s.r.K, .slice a5 n5 c5, .bool s.r.s]) rfl rfl rfl R1.out rfl rfl (all_one rfl) (show 15 + 4 ≤ 29 by decide) (by kernel_rfl) ?_; intro w2 r1 o2; have R3 := Lib.hid r1; have R4 := Lib.hid (R2.out.oth o2 (Nat.succ_ne_self _)); have B3 := Lib.hid (B1.out.trans o2.1); clear r1 o2 R1 R2 B1)
    | (refine ldSk (B := #[.int .i64 4, .int .i64 s.S, .int .i64 s.D, .int .u64 s.x, .int .i64 s.tT, .int .i64 s.tI, .bool s.tF, .int .i64 s.c.D, .int .i64 s.c.S, .int .u64 s.c.x, .slice a1 n1 c1, .bool s.c.s, .int .i64 s.l.P, .int .u64 s.l.x, .slice a2 n2 c2, .int .i64 0, .int .i64 0, .slice none 0 0, .bool false, .int .i64 s.f.S, .int .i64 s.f.T, .int .i64 s.f.K, .slice a4 n4 c4, .bool s.f.s, .int .i64 s.r.S, .int .i64 s.r.T, .int .i64 s.r.K, .slice a5 n5 c5, .bool s.r.s]) rfl rfl rfl R3.out rfl (by kernel_rfl) ?_)
    | (refine stWh rfl rfl rfl R4.out rfl rfl rfl rfl ?_; intro w5 r5 o5; have R5 := Lib.hid r5; have B5 := Lib.hid (B3.out.trans (o5.1.mono (Nat.le_succ _))); clear r5 o5))
  exact ret_row Tryz.results67 rfl rfl R5.out Tryz.underlying48 rfl infSk ⟨rfl, B5.out⟩
set_option maxRecDepth 100000 in
set_option maxHeartbeats 2000000 in
theorem wo_k5 (s : SK) (a1 : Option Addr) (n1 c1 : Nat) (a2 : Option Addr) (n2 c2 : Nat) (a3 : Option Addr) (n3 c3 : Nat) (a4 : Option Addr) (n4 c4 : Nat) (a5 : Option Addr) (n5 c5 : Nat) (w : World) :
    Calls Tryz.prog 67 #[.agg #[.int .i64 5, .int .i64 s.S, .int .i64 s.D, .int .u64 s.x, .int .i64 s.tT, .int .i64 s.tI, .bool s.tF, .int .i64 s.c.D, .int .i64 s.c.S, .int .u64 s.c.x, .slice a1 n1 c1, .bool s.c.s, .int .i64 s.l.P, .int .u64 s.l.x, .slice a2 n2 c2, .int .i64 s.t.S, .int .i64 s.t.T, .slice a3 n3 c3, .bool s.t.s, .int .i64 s.f.S, .int .i64 s.f.T, .int .i64 s.f.K, .slice a4 n4 c4, .bool s.f.s, .int .i64 s.r.S, .int .i64 s.r.T, .int .i64 s.r.K, .slice a5 n5 c5, .bool s.r.s]] w fun e w' => e = .returned (.agg #[.int .i64 5, .int .i64 s.S, .int .i64 s.D, .int .u64 s.x, .int .i64 s.tT, .int .i64 s.tI, .bool s.tF, .int .i64 s.c.D, .int .i64 s.c.S, .int .u64 s.c.x, .slice a1 n1 c1, .bool s.c.s, .int .i64 s.l.P, .int .u64 s.l.x, .slice a2 n2 c2, .int .i64 s.t.S, .int .i64 s.t.T, .slice a3 n3 c3, .bool s.t.s, .int .i64 0, .int .i64 0, .int .i64 0, .slice none 0 0, .bool false, .int .i64 s.r.S, .int .i64 s.r.T, .int .i64 s.r.K, .slice a5 n5 c5, .bool s.r.s]) ∧ Below w.heap.size w w' := by
  go_enter Tryz.func67, Tryz.ntmps67
  go_upto_region 1 with (fail)
  refine wp_genW (fun w1 => RowAt w.heap.size #[.int .i64 5, .int .i64 s.S, .int .i64 s.D, .int .u64 s.x, .int .i64 s.tT, .int .i64 s.tI, .bool s.tF, .int .i64 s.c.D, .int .i64 s.c.S, .int .u64 s.c.x, .slice a1 n1 c1, .bool s.c.s, .int .i64 s.l.P, .int .u64 s.l.x, .slice a2 n2 c2, .int .i64 s.t.S, .int .i64 s.t.T, .slice a3 n3 c3, .bool s.t.s, .int .i64 s.f.S, .int .i64 s.f.T, .int .i64 s.f.K, .slice a4 n4 c4, .bool s.f.s, .int .i64 s.r.S, .int .i64 s.r.T, .int .i64 s.r.K, .slice a5 n5 c5, .bool s.r.s] w1 ∧ RowAt (w.heap.size + 1) zcSk w1 ∧ Below w.heap.size w w1) ⟨(RowAt.new _ _ _).al _, RowAt.new1 _ _ _ _, b2 _ _⟩ ?_
  rintro w1 ⟨r1, r2, hb⟩
  have R1 := Lib.hid r1
  have R2 := Lib.hid r2
  have B1 := Lib.hid hb
  clear r1 r2 hb
  go_wp2_with (first
    | (refine ldi rfl rfl rfl (v := .int .i64 5) R1.out rfl ?_)
    | (refine stFq (A' := #[.int .i64 5, .int .i64 s.S, .int .i64 s.D, .int .u64 s.x, .int .i64 s.tT, .int .i64 s.tI, .bool s.tF, .int .i64 s.c.D, .int .i64 s.c.S, .int .u64 s.c.x, .slice a1 n1 c1, .bool s.c.s, .int .i64 s.l.P, .int .u64 s.l.x, .slice a2 n2 c2, .int .i64 s.t.S, .int .i64 s.t.T, .slice a3 n3 c3, .bool s.t.s, .int .i64 0, .int .i64 0, .int .i64 0, .slice none 0 0, .bool false, .int .i64 s.r.S, .int .i64 s.r.T, .int .i64 s.r.K, .slice a5 n5 c5, .bool s.r.s]) rfl rfl rfl R1.out rfl rfl (all_one rfl) (show 19 + 5 ≤ 29 by decide) (by kernel_rfl) ?_; intro w2 r1 o2; have R3 := Lib.hid r1; have R4 := Lib.hid (R2.out.oth o2 (Nat.succ_ne_self _)); have B3 := Lib.hid (B1.out.trans o2.1); clear r1 o2 R1 R2 B1)
    | (refine ldSk (B := #[.int .i64 5, .int .i64 s.S, .int .i64 s.D, .int .u64 s.x, .int .i64 s.tT, .int .i64 s.tI, .bool s.tF, .int .i64 s.c.D, .int .i64 s.c.S, .int .u64 s.c.x, .slice a1 n1 c1, .bool s.c.s, .int .i64 s.l.P, .int .u64 s.l.x, .slice a2 n2 c2, .int .i64 s.t.S, .int .i64 s.t.T, .slice a3 n3 c3, .bool s.t.s, .int .i64 0, .int .i64 0, .int .i64 0, .slice none 0 0, .bool false, .int .i64 s.r.S, .int .i64 s.r.T, .int .i64 s.r.K, .slice a5 n5 c5, .bool s.r.s]) rfl rfl rfl R3.out rfl (by kernel_rfl) ?_)
    | (refine stWh rfl rfl rfl R4.out rfl rfl rfl rfl ?_; intro w5 r5 o5; have R5 := Lib.hid r5; have B5 := Lib.hid (B3.out.trans (o5.1.mono (Nat.le_succ _))); clear r5 o5))
  exact ret_row Tryz.results67 rfl rfl R5.out Tryz.underlying48 rfl infSk ⟨rfl, B5.out⟩
set_option maxRecDepth 100000 in
set_option maxHeartbeats 2000000 in
theorem wo_k6 (s : SK) (a1 : Option Addr) (n1 c1 : Nat) (a2 : Option Addr) (n2 c2 : Nat) (a3 : Option Addr) (n3 c3 : Nat) (a4 : Option Addr) (n4 c4 : Nat) (a5 : Option Addr) (n5 c5 : Nat) (w : World) :
    Calls Tryz.prog 67 #[.agg #[.int .i64 6, .int .i64 s.S, .int .i64 s.D, .int .u64 s.x, .int .i64 s.tT, .int .i64 s.tI, .bool s.tF, .int .i64 s.c.D, .int .i64 s.c.S, .int .u64 s.c.x, .slice a1 n1 c1, .bool s.c.s, .int .i64 s.l.P, .int .u64 s.l.x, .slice a2 n2 c2, .int .i64 s.t.S, .int .i64 s.t.T, .slice a3 n3 c3, .bool s.t.s, .int .i64 s.f.S, .int .i64 s.f.T, .int .i64 s.f.K, .slice a4 n4 c4, .bool s.f.s, .int .i64 s.r.S, .int .i64 s.r.T, .int .i64 s.r.K, .slice a5 n5 c5, .bool s.r.s]] w fun e w' => e = .returned (.agg #[.int .i64 6, .int .i64 s.S, .int .i64 s.D, .int .u64 s.x, .int .i64 s.tT, .int .i64 s.tI, .bool s.tF, .int .i64 s.c.D, .int .i64 s.c.S, .int .u64 s.c.x, .slice a1 n1 c1, .bool s.c.s, .int .i64 s.l.P, .int .u64 s.l.x, .slice a2 n2 c2, .int .i64 s.t.S, .int .i64 s.t.T, .slice a3 n3 c3, .bool s.t.s, .int .i64 s.f.S, .int .i64 s.f.T, .int .i64 s.f.K, .slice a4 n4 c4, .bool s.f.s, .int .i64 0, .int .i64 0, .int .i64 0, .slice none 0 0, .bool false]) ∧ Below w.heap.size w w' := by
  go_enter Tryz.func67, Tryz.ntmps67
  go_upto_region 1 with (fail)
  refine wp_genW (fun w1 => RowAt w.heap.size #[.int .i64 6, .int .i64 s.S, .int .i64 s.D, .int .u64 s.x, .int .i64 s.tT, .int .i64 s.tI, .bool s.tF, .int .i64 s.c.D, .int .i64 s.c.S, .int .u64 s.c.x, .slice a1 n1 c1, .bool s.c.s, .int .i64 s.l.P, .int .u64 s.l.x, .slice a2 n2 c2, .int .i64 s.t.S, .int .i64 s.t.T, .slice a3 n3 c3, .bool s.t.s, .int .i64 s.f.S, .int .i64 s.f.T, .int .i64 s.f.K, .slice a4 n4 c4, .bool s.f.s, .int .i64 s.r.S, .int .i64 s.r.T, .int .i64 s.r.K, .slice a5 n5 c5, .bool s.r.s] w1 ∧ RowAt (w.heap.size + 1) zcSk w1 ∧ Below w.heap.size w w1) ⟨(RowAt.new _ _ _).al _, RowAt.new1 _ _ _ _, b2 _ _⟩ ?_
  rintro w1 ⟨r1, r2, hb⟩
  have R1 := Lib.hid r1
  have R2 := Lib.hid r2
  have B1 := Lib.hid hb
  clear r1 r2 hb
  go_wp2_with (first
    | (refine ldi rfl rfl rfl (v := .int .i64 6) R1.out rfl ?_)
    | (refine stRk (A' := #[.int .i64 6, .int .i64 s.S, .int .i64 s.D, .int .u64 s.x, .int .i64 s.tT, .int .i64 s.tI, .bool s.tF, .int .i64 s.c.D, .int .i64 s.c.S, .int .u64 s.c.x, .slice a1 n1 c1, .bool s.c.s, .int .i64 s.l.P, .int .u64 s.l.x, .slice a2 n2 c2, .int .i64 s.t.S, .int .i64 s.t.T, .slice a3 n3 c3, .bool s.t.s, .int .i64 s.f.S, .int .i64 s.f.T, .int .i64 s.f.K, .slice a4 n4 c4, .bool s.f.s, .int .i64 0, .int .i64 0, .int .i64 0, .slice none 0 0, .bool false]) rfl rfl rfl R1.out rfl rfl (all_one rfl) (show 24 + 5 ≤ 29 by decide) (by kernel_rfl) ?_; intro w2 r1 o2; have R3 := Lib.hid r1; have R4 := Lib.hid (R2.out.oth o2 (Nat.succ_ne_self _)); have B3 := Lib.hid (B1.out.trans o2.1); clear r1 o2 R1 R2 B1)
    | (refine ldSk (B := #[.int .i64 6, .int .i64 s.S, .int .i64 s.D, .int .u64 s.x, .int .i64 s.tT, .int .i64 s.tI, .bool s.tF, .int .i64 s.c.D, .int .i64 s.c.S, .int .u64 s.c.x, .slice a1 n1 c1, .bool s.c.s, .int .i64 s.l.P, .int .u64 s.l.x, .slice a2 n2 c2, .int .i64 s.t.S, .int .i64 s.t.T, .slice a3 n3 c3, .bool s.t.s, .int .i64 s.f.S, .int .i64 s.f.T, .int .i64 s.f.K, .slice a4 n4 c4, .bool s.f.s, .int .i64 0, .int .i64 0, .int .i64 0, .slice none 0 0, .bool false]) rfl rfl rfl R3.out rfl (by kernel_rfl) ?_)
    | (refine stWh rfl rfl rfl R4.out rfl rfl rfl rfl ?_; intro w5 r5 o5; have R5 := Lib.hid r5; have B5 := Lib.hid (B3.out.trans (o5.1.mono (Nat.le_succ _))); clear r5 o5))
  exact ret_row Tryz.results67 rfl rfl R5.out Tryz.underlying48 rfl infSk ⟨rfl, B5.out⟩
set_option maxRecDepth 100000 in
set_option maxHeartbeats 2000000 in
theorem wo_k7 (s : SK) (k : Int) (h1 : k ≠ 1) (h2 : k ≠ 2) (h3 : k ≠ 3) (h4 : k ≠ 4) (h5 : k ≠ 5) (h6 : k ≠ 6) (a1 : Option Addr) (n1 c1 : Nat) (a2 : Option Addr) (n2 c2 : Nat) (a3 : Option Addr) (n3 c3 : Nat) (a4 : Option Addr) (n4 c4 : Nat) (a5 : Option Addr) (n5 c5 : Nat) (w : World) :
    Calls Tryz.prog 67 #[.agg #[.int .i64 k, .int .i64 s.S, .int .i64 s.D, .int .u64 s.x, .int .i64 s.tT, .int .i64 s.tI, .bool s.tF, .int .i64 s.c.D, .int .i64 s.c.S, .int .u64 s.c.x, .slice a1 n1 c1, .bool s.c.s, .int .i64 s.l.P, .int .u64 s.l.x, .slice a2 n2 c2, .int .i64 s.t.S, .int .i64 s.t.T, .slice a3 n3 c3, .bool s.t.s, .int .i64 s.f.S, .int .i64 s.f.T, .int .i64 s.f.K, .slice a4 n4 c4, .bool s.f.s, .int .i64 s.r.S, .int .i64 s.r.T, .int .i64 s.r.K, .slice a5 n5 c5, .bool s.r.s]] w fun e w' => e = .returned (.agg #[.int .i64 k, .int .i64 s.S, .int .i64 s.D, .int .u64 s.x, .int .i64 s.tT, .int .i64 s.tI, .bool s.tF, .int .i64 s.c.D, .int .i64 s.c.S, .int .u64 s.c.x, .slice a1 n1 c1, .bool s.c.s, .int .i64 s.l.P, .int .u64 s.l.x, .slice a2 n2 c2, .int .i64 s.t.S, .int .i64 s.t.T, .slice a3 n3 c3, .bool s.t.s, .int .i64 s.f.S, .int .i64 s.f.T, .int .i64 s.f.K, .slice a4 n4 c4, .bool s.f.s, .int .i64 s.r.S, .int .i64 s.r.T, .int .i64 s.r.K, .slice a5 n5 c5, .bool s.r.s]) ∧ Below w.heap.size w w' := by
  go_enter Tryz.func67, Tryz.ntmps67
  go_upto_region 1 with (fail)
  refine wp_genW (fun w1 => RowAt w.heap.size #[.int .i64 k, .int .i64 s.S, .int .i64 s.D, .int .u64 s.x, .int .i64 s.tT, .int .i64 s.tI, .bool s.tF, .int .i64 s.c.D, .int .i64 s.c.S, .int .u64 s.c.x, .slice a1 n1 c1, .bool s.c.s, .int .i64 s.l.P, .int .u64 s.l.x, .slice a2 n2 c2, .int .i64 s.t.S, .int .i64 s.t.T, .slice a3 n3 c3, .bool s.t.s, .int .i64 s.f.S, .int .i64 s.f.T, .int .i64 s.f.K, .slice a4 n4 c4, .bool s.f.s, .int .i64 s.r.S, .int .i64 s.r.T, .int .i64 s.r.K, .slice a5 n5 c5, .bool s.r.s] w1 ∧ RowAt (w.heap.size + 1) zcSk w1 ∧ Below w.heap.size w w1) ⟨(RowAt.new _ _ _).al _, RowAt.new1 _ _ _ _, b2 _ _⟩ ?_
  rintro w1 ⟨r1, r2, hb⟩
  have R1 := Lib.hid r1
  have R2 := Lib.hid r2
  have B1 := Lib.hid hb
  clear r1 r2 hb
  go_wp2_with (first
    | (refine ldi rfl rfl rfl (v := .int .i64 k) R1.out rfl ?_)
    | (refine ldSk (B := #[.int .i64 k, .int .i64 s.S, .int .i64 s.D, .int .u64 s.x, .int .i64 s.tT, .int .i64 s.tI, .bool s.tF, .int .i64 s.c.D, .int .i64 s.c.S, .int .u64 s.c.x, .slice a1 n1 c1, .bool s.c.s, .int .i64 s.l.P, .int .u64 s.l.x, .slice a2 n2 c2, .int .i64 s.t.S, .int .i64 s.t.T, .slice a3 n3 c3, .bool s.t.s, .int .i64 s.f.S, .int .i64 s.f.T, .int .i64 s.f.K, .slice a4 n4 c4, .bool s.f.s, .int .i64 s.r.S, .int .i64 s.r.T, .int .i64 s.r.K, .slice a5 n5 c5, .bool s.r.s]) rfl rfl rfl R1.out rfl (by kernel_rfl) ?_)
    | (refine stWh rfl rfl rfl R2.out rfl rfl rfl rfl ?_; intro w5 r5 o5; have R5 := Lib.hid r5; have B5 := Lib.hid (B1.out.trans (o5.1.mono (Nat.le_succ _))); clear r5 o5))
  exact ret_row Tryz.results67 rfl rfl R5.out Tryz.underlying48 rfl infSk ⟨rfl, B5.out⟩
theorem wo_row (s : SK) (a1 : Option Addr) (n1 c1 : Nat) (a2 : Option Addr) (n2 c2 : Nat) (a3 : Option Addr) (n3 c3 : Nat) (a4 : Option Addr) (n4 c4 : Nat) (a5 : Option Addr) (n5 c5 : Nat) (w : World) :
    Calls Tryz.prog 67 #[.agg (skA s (.slice a1 n1 c1) (.slice a2 n2 c2) (.slice a3 n3 c3) (.slice a4 n4 c4) (.slice a5 n5 c5))] w fun e w' => e = .returned (.agg (woA s (.slice a1 n1 c1) (.slice a2 n2 c2) (.slice a3 n3 c3) (.slice a4 n4 c4) (.slice a5 n5 c5))) ∧ Below w.heap.size w w' := by
  unfold woA woK skA
  dsimp only
  rcases kind_cases s.k with hk | hk | hk | hk | hk | hk | ⟨h1, h2, h3, h4, h5, h6⟩
  · rw [hk]
    simp only [if_true, if_false, CM.none, LL.none, TP.none, FQ.none, RK.none, show ((1 : Int) = 2) = False from by simp, show ((1 : Int) = 3) = False from by simp, show ((1 : Int) = 4) = False from by simp, show ((1 : Int) = 5) = False from by simp, show ((1 : Int) = 6) = False from by simp]
    exact wo_k1 s a1 n1 c1 a2 n2 c2 a3 n3 c3 a4 n4 c4 a5 n5 c5 w
  · rw [hk]
    simp only [if_true, if_false, CM.none, LL.none, TP.none, FQ.none, RK.none, show ((2 : Int) = 1) = False from by simp, show ((2 : Int) = 3) = False from by simp, show ((2 : Int) = 4) = False from by simp, show ((2 : Int) = 5) = False from by simp, show ((2 : Int) = 6) = False from by simp]
    exact wo_k2 s a1 n1 c1 a2 n2 c2 a3 n3 c3 a4 n4 c4 a5 n5 c5 w
  · rw [hk]
    simp only [if_true, if_false, CM.none, LL.none, TP.none, FQ.none, RK.none, show ((3 : Int) = 1) = False from by simp, show ((3 : Int) = 2) = False from by simp, show ((3 : Int) = 4) = False from by simp, show ((3 : Int) = 5) = False from by simp, show ((3 : Int) = 6) = False from by simp]
    exact wo_k3 s a1 n1 c1 a2 n2 c2 a3 n3 c3 a4 n4 c4 a5 n5 c5 w
  · rw [hk]
    simp only [if_true, if_false, CM.none, LL.none, TP.none, FQ.none, RK.none, show ((4 : Int) = 1) = False from by simp, show ((4 : Int) = 2) = False from by simp, show ((4 : Int) = 3) = False from by simp, show ((4 : Int) = 5) = False from by simp, show ((4 : Int) = 6) = False from by simp]
    exact wo_k4 s a1 n1 c1 a2 n2 c2 a3 n3 c3 a4 n4 c4 a5 n5 c5 w
  · rw [hk]
    simp only [if_true, if_false, CM.none, LL.none, TP.none, FQ.none, RK.none, show ((5 : Int) = 1) = False from by simp, show ((5 : Int) = 2) = False from by simp, show ((5 : Int) = 3) = False from by simp, show ((5 : Int) = 4) = False from by simp, show ((5 : Int) = 6) = False from by simp]
    exact wo_k5 s a1 n1 c1 a2 n2 c2 a3 n3 c3 a4 n4 c4 a5 n5 c5 w
  · rw [hk]
    simp only [if_true, if_false, CM.none, LL.none, TP.none, FQ.none, RK.none, show ((6 : Int) = 1) = False from by simp, show ((6 : Int) = 2) = False from by simp, show ((6 : Int) = 3) = False from by simp, show ((6 : Int) = 4) = False from by simp, show ((6 : Int) = 5) = False from by simp]
    exact wo_k6 s a1 n1 c1 a2 n2 c2 a3 n3 c3 a4 n4 c4 a5 n5 c5 w
  · simp only [if_neg h1, if_neg h2, if_neg h3, if_neg h4, if_neg h5, if_neg h6]
    exact wo_k7 s s.k h1 h2 h3 h4 h5 h6 a1 n1 c1 a2 n2 c2 a3 n3 c3 a4 n4 c4 a5 n5 c5 w
end Go.Proofs.YtjibbnknliamkaaGreatDoor
