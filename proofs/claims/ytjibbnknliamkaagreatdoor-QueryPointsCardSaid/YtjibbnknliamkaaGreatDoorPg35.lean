/- AsT: in one text. -/
import Derived.Test.YtjibbnknliamkaaGreatDoorPg29
import Derived.Test.YtjibbnknliamkaaGreatDoorPg33
import Derived.Test.YtjibbnknliamkaaGreatDoorPg27
import Derived.Test.YtjibbnknliamkaaGreatDoorPg32
import Derived.Test.YtjibbnknliamkaaGreatDoorPg34
import Derived.BigRegion
namespace Go.Proofs.YtjibbnknliamkaaGreatDoor
open Go Go.RowKit
set_option linter.unusedVariables false
set_option linter.unusedSimpArgs false
theorem emp_list2 : ByteArray.empty.toList = [] := by rw [Lib.toList_data]; rfl
theorem RdE.cutTo {L : List Ent} {a : Option Addr} {n cap : Nat} {w : World} (h : RdE L (.slice a n cap) w) (m : Nat) (hm : m ≤ L.length) : RdE (L.take m) (.slice a m cap) w := by
  obtain ⟨hy, a', cap', he, h1, h2, h3⟩ := h
  simp only [Value.slice.injEq] at he
  obtain ⟨rfl, rfl, rfl⟩ := he
  refine ⟨hy.take m, a, cap, by simp [Nat.min_eq_left hm], by simp; omega, h2, fun hp => ?_⟩
  have hp' : 0 < m := by simp at hp; omega
  obtain ⟨b, off, rfl, hb, hc⟩ := h3 (by omega)
  refine ⟨b, off, rfl, hb, fun j hj => ?_⟩
  have hj' : j < m := by simp at hj; omega
  have := hc j (by omega)
  have e : (L.take m).getD j Ent.z = L.getD j Ent.z := by simp [List.getD, List.getElem?_take, hj']
  rw [e]
  exact this
theorem unu_fm4 (t : TP) : unuB (woK (fmO t)) = true := by unfold fmO; simp [woK, unuB, CM.none, LL.none, TP.none, FQ.none, RK.none]
theorem unu_fm5 (f : FQ) : unuB (woK (fmQ f)) = true := by unfold fmQ; simp [woK, unuB, CM.none, LL.none, TP.none, FQ.none, RK.none]
theorem val_fm4 {t : TP} (h0 : 1 ≤ t.S) (h1 : t.S ≤ 32) (hv : valE t.S t.T t.L = 0) : valK (fmO t) = 0 := by
  have hp : prmE (fmO t).k (fmO t).S (fmO t).D (fmO t).x = 0 := prm_top h0 h1
  have hF : valF (fmO t) = 0 := by unfold valF fmO; simp [hv]
  have hB : fitB (fmO t) = true := by unfold fitB fmO fpS fpD fpX; simp
  unfold valK
  rw [hp, hF, hB, unu_fm4]
  simp
theorem val_fm5 {f : FQ} (h0 : 1 ≤ f.S) (h1 : f.S ≤ 32) (hv : valQ f.S f.T f.K f.L = 0) : valK (fmQ f) = 0 := by
  have hp : prmE (fmQ f).k (fmQ f).S (fmQ f).D (fmQ f).x = 0 := prm_frq h0 h1
  have hF : valF (fmQ f) = 0 := by unfold valF fmQ; simp [hv]
  have hB : fitB (fmQ f) = true := by unfold fitB fmQ fpS fpD fpX; simp
  unfold valK
  rw [hp, hF, hB, unu_fm5]
  simp
theorem qr_top {c : Int} (h0 : 0 ≤ c) (h1 : c ≤ 32) : qrE 5 ByteArray.empty c 0 0 = 0 := by
  have : ¬ (c < 0 ∨ 32 < c) := by omega
  simp [qrE, qrU, qrS, emp_list2, this]
set_option maxRecDepth 100000 in
set_option maxHeartbeats 2000000 in
theorem en_top (t : TP) (a1 : Option Addr) (c1 : Nat) (a2 : Option Addr) (c2 : Nat) (a3 : Option Addr) (c3 : Nat) (a4 : Option Addr) (c4 : Nat) (a5 : Option Addr) (c5 : Nat) (w : World) (hn : t.L.length ≤ 32) (h : RowsK (fmO t) (.slice a1 0 c1) (.slice a2 0 c2) (.slice a3 t.L.length c3) (.slice a4 0 c4) (.slice a5 0 c5) w) (hw : WfK (fmO t)) (hv : valK (fmO t) = 0) (ht : SupT w) :
    Calls Tryz.prog 18 #[.agg #[.int .i64 4, .int .i64 t.S, .int .i64 0, .int .u64 0, .int .i64 0, .int .i64 0, .bool false, .int .i64 0, .int .i64 0, .int .u64 0, .slice a1 0 c1, .bool false, .int .i64 0, .int .u64 0, .slice a2 0 c2, .int .i64 t.S, .int .i64 t.T, .slice a3 t.L.length c3, .bool t.s, .int .i64 0, .int .i64 0, .int .i64 0, .slice a4 0 c4, .bool false, .int .i64 0, .int .i64 0, .int .i64 0, .slice a5 0 c5, .bool false]] w fun e w' => ∃ v, e = .returned (.tuple #[v, .int .i64 0]) ∧ RdE t.L v w' ∧ Below w.heap.size w w' := by
  have HV : Hid (∀ w' : World, Below w.heap.size w w' → Calls Tryz.prog 34 #[.agg #[.int .i64 4, .int .i64 t.S, .int .i64 0, .int .u64 0, .int .i64 0, .int .i64 0, .bool false, .int .i64 0, .int .i64 0, .int .u64 0, .slice a1 0 c1, .bool false, .int .i64 0, .int .u64 0, .slice a2 0 c2, .int .i64 t.S, .int .i64 t.T, .slice a3 t.L.length c3, .bool t.s, .int .i64 0, .int .i64 0, .int .i64 0, .slice a4 0 c4, .bool false, .int .i64 0, .int .i64 0, .int .i64 0, .slice a5 0 c5, .bool false]] w' fun e w2 => e = .returned (.int .i64 0) ∧ Below w'.heap.size w' w2) := Lib.hid (fun w' hb => by
    have := val_row (fmO t) a1 c1 a2 c2 a3 c3 a4 c4 a5 c5 w' hw (h.below hb)
    rw [hv] at this
    exact this)
  have HC : Hid (∀ w' : World, Below w.heap.size w w' → Calls Tryz.prog 46 #[.agg #[.int .i64 4, .int .i64 t.S, .int .i64 0, .int .u64 0, .int .i64 0, .int .i64 0, .bool false, .int .i64 0, .int .i64 0, .int .u64 0, .slice a1 0 c1, .bool false, .int .i64 0, .int .u64 0, .slice a2 0 c2, .int .i64 t.S, .int .i64 t.T, .slice a3 t.L.length c3, .bool t.s, .int .i64 0, .int .i64 0, .int .i64 0, .slice a4 0 c4, .bool false, .int .i64 0, .int .i64 0, .int .i64 0, .slice a5 0 c5, .bool false]] w' fun e w2 => ∃ v, e = .returned v ∧ OwnE w'.heap.size t.L v w2 ∧ Below w'.heap.size w' w2) := Lib.hid (fun w' hb => bc_top t a1 c1 a2 c2 a3 c3 a4 c4 a5 c5 w' (h.below hb) (by omega))
  have T0 := Lib.hid ht
  clear h ht
  go_enter Tryz.func18, Tryz.ntmps18
  go_upto_region 1 with (fail)
  refine wp_genW (fun w1 => RowAt w.heap.size #[.int .i64 4, .int .i64 t.S, .int .i64 0, .int .u64 0, .int .i64 0, .int .i64 0, .bool false, .int .i64 0, .int .i64 0, .int .u64 0, .slice a1 0 c1, .bool false, .int .i64 0, .int .u64 0, .slice a2 0 c2, .int .i64 t.S, .int .i64 t.T, .slice a3 t.L.length c3, .bool t.s, .int .i64 0, .int .i64 0, .int .i64 0, .slice a4 0 c4, .bool false, .int .i64 0, .int .i64 0, .int .i64 0, .slice a5 0 c5, .bool false] w1 ∧ Below w.heap.size w w1) ⟨RowAt.new _ _ _, b1 _⟩ ?_
  rintro w1 ⟨r1, hb⟩
  have R1 := Lib.hid r1
  have B1 := Lib.hid hb
  clear r1 hb
  go_upto_region 4 with (first
    | (refine ldSk (B := #[.int .i64 4, .int .i64 t.S, .int .i64 0, .int .u64 0, .int .i64 0, .int .i64 0, .bool false, .int .i64 0, .int .i64 0, .int .u64 0, .slice a1 0 c1, .bool false, .int .i64 0, .int .u64 0, .slice a2 0 c2, .int .i64 t.S, .int .i64 t.T, .slice a3 t.L.length c3, .bool t.s, .int .i64 0, .int .i64 0, .int .i64 0, .slice a4 0 c4, .bool false, .int .i64 0, .int .i64 0, .int .i64 0, .slice a5 0 c5, .bool false]) rfl rfl rfl R1.out rfl (by kernel_rfl) ?_)
    | (go_at_call 34; (with_reducible refine (HV.out _ B1.out).mono ?_); rintro e w2 ⟨rfl, hb2⟩; have R2 := Lib.hid (R1.out.go hb2); have B2 := Lib.hid (bgo B1.out hb2); clear hb2 R1 B1))
  have T2 := T0.out.go B2.out
  have c2' : w2.cell? ⟨0, 39, none⟩ = some (.bool true) := T2.2 5 4 _ _ rfl rfl
  have lt3 := T2.1
  go_wp2_with (first
    | (refine ldi (v := .int .i64 4) rfl rfl rfl R2.out rfl ?_)
    | (refine ldSk (B := #[.int .i64 4, .int .i64 t.S, .int .i64 0, .int .u64 0, .int .i64 0, .int .i64 0, .bool false, .int .i64 0, .int .i64 0, .int .u64 0, .slice a1 0 c1, .bool false, .int .i64 0, .int .u64 0, .slice a2 0 c2, .int .i64 t.S, .int .i64 t.T, .slice a3 t.L.length c3, .bool t.s, .int .i64 0, .int .i64 0, .int .i64 0, .slice a4 0 c4, .bool false, .int .i64 0, .int .i64 0, .int .i64 0, .slice a5 0 c5, .bool false]) rfl rfl rfl R2.out rfl (by kernel_rfl) ?_)
    | (go_at_call 46; (with_reducible refine (HC.out _ B2.out).mono ?_); rintro e w3 ⟨v, rfl, ho, hb3⟩; have O3 := Lib.hid ho.rd; have B3 := Lib.hid (bgo B2.out hb3); clear ho hb3))
  go_ret2
  exact ⟨_, rfl, O3.out, B3.out⟩
set_option maxRecDepth 100000 in
set_option maxHeartbeats 2000000 in
theorem sat_top (t : TP) (a1 : Option Addr) (c1 : Nat) (a2 : Option Addr) (c2 : Nat) (a3 : Option Addr) (c3 : Nat) (a4 : Option Addr) (c4 : Nat) (a5 : Option Addr) (c5 : Nat) (w : World) :
    Calls Tryz.prog 36 #[.agg #[.int .i64 4, .int .i64 t.S, .int .i64 0, .int .u64 0, .int .i64 0, .int .i64 0, .bool false, .int .i64 0, .int .i64 0, .int .u64 0, .slice a1 0 c1, .bool false, .int .i64 0, .int .u64 0, .slice a2 0 c2, .int .i64 t.S, .int .i64 t.T, .slice a3 t.L.length c3, .bool t.s, .int .i64 0, .int .i64 0, .int .i64 0, .slice a4 0 c4, .bool false, .int .i64 0, .int .i64 0, .int .i64 0, .slice a5 0 c5, .bool false]] w fun e w' => e = .returned (.bool t.s) ∧ Below w.heap.size w w' := by
  go_enter Tryz.func36, Tryz.ntmps36
  go_upto_region 1 with (fail)
  refine wp_genW (fun w1 => RowAt w.heap.size #[.int .i64 4, .int .i64 t.S, .int .i64 0, .int .u64 0, .int .i64 0, .int .i64 0, .bool false, .int .i64 0, .int .i64 0, .int .u64 0, .slice a1 0 c1, .bool false, .int .i64 0, .int .u64 0, .slice a2 0 c2, .int .i64 t.S, .int .i64 t.T, .slice a3 t.L.length c3, .bool t.s, .int .i64 0, .int .i64 0, .int .i64 0, .slice a4 0 c4, .bool false, .int .i64 0, .int .i64 0, .int .i64 0, .slice a5 0 c5, .bool false] w1 ∧ Below w.heap.size w w1) ⟨RowAt.new _ _ _, b1 _⟩ ?_
  rintro w1 ⟨r1, hb⟩
  have R1 := Lib.hid r1
  have B1 := Lib.hid hb
  clear r1 hb
  go_wp2_with (first
    | (refine ldi (v := .int .i64 4) rfl rfl rfl R1.out rfl ?_)
    | (refine ldb (v := .bool t.s) rfl rfl rfl R1.out rfl ?_))
  go_ret
  exact ⟨rfl, B1.out⟩
set_option maxRecDepth 100000 in
set_option maxHeartbeats 2000000 in
theorem an_top (t : TP) (a1 : Option Addr) (c1 : Nat) (a2 : Option Addr) (c2 : Nat) (a3 : Option Addr) (c3 : Nat) (a4 : Option Addr) (c4 : Nat) (a5 : Option Addr) (c5 : Nat) (c : Int) (m : Nat) (w : World) (hn : t.L.length ≤ 32) (h : RowsK (fmO t) (.slice a1 0 c1) (.slice a2 0 c2) (.slice a3 t.L.length c3) (.slice a4 0 c4) (.slice a5 0 c5) w) (c0 : 0 ≤ c) (hm : min c (t.L.length : Int) = m) :
    Calls Tryz.prog 35 #[.agg #[.int .i64 4, .int .i64 t.S, .int .i64 0, .int .u64 0, .int .i64 0, .int .i64 0, .bool false, .int .i64 0, .int .i64 0, .int .u64 0, .slice a1 0 c1, .bool false, .int .i64 0, .int .u64 0, .slice a2 0 c2, .int .i64 t.S, .int .i64 t.T, .slice a3 t.L.length c3, .bool t.s, .int .i64 0, .int .i64 0, .int .i64 0, .slice a4 0 c4, .bool false, .int .i64 0, .int .i64 0, .int .i64 0, .slice a5 0 c5, .bool false], .agg #[.int .i64 5, .string ByteArray.empty, .int .i64 c, .int .i64 0, .int .i64 0]] w fun e w' => ∃ aa cc, e = .returned (.tuple #[.agg #[.int .i64 0, .int .i64 0, .string ByteArray.empty, .slice none 0 0, .slice aa m cc, .bool false], .int .i64 0]) ∧ (∀ w3, Abv (w.heap.size + 3) w' w3 → RdE (t.L.take m) (.slice aa m cc) w3) ∧ Below w.heap.size w w' := by
  have HC : Hid (∀ w' : World, Below w.heap.size w w' → Calls Tryz.prog 46 #[.agg #[.int .i64 4, .int .i64 t.S, .int .i64 0, .int .u64 0, .int .i64 0, .int .i64 0, .bool false, .int .i64 0, .int .i64 0, .int .u64 0, .slice a1 0 c1, .bool false, .int .i64 0, .int .u64 0, .slice a2 0 c2, .int .i64 t.S, .int .i64 t.T, .slice a3 t.L.length c3, .bool t.s, .int .i64 0, .int .i64 0, .int .i64 0, .slice a4 0 c4, .bool false, .int .i64 0, .int .i64 0, .int .i64 0, .slice a5 0 c5, .bool false]] w' fun e w2 => ∃ v, e = .returned v ∧ OwnE w'.heap.size t.L v w2 ∧ Below w'.heap.size w' w2) := Lib.hid (fun w' hb => bc_top t a1 c1 a2 c2 a3 c3 a4 c4 a5 c5 w' (h.below hb) (by omega))
  have HL := Lib.hid (show t.L.length ≤ 1099511627776 from Nat.le_trans hn (by decide))
  have hml : m ≤ t.L.length := by omega
  clear h
  go_enter Tryz.func35, Tryz.ntmps35
  go_upto_region 1 with (fail)
  refine wp_genW (fun w1 => RowAt w.heap.size #[.int .i64 4, .int .i64 t.S, .int .i64 0, .int .u64 0, .int .i64 0, .int .i64 0, .bool false, .int .i64 0, .int .i64 0, .int .u64 0, .slice a1 0 c1, .bool false, .int .i64 0, .int .u64 0, .slice a2 0 c2, .int .i64 t.S, .int .i64 t.T, .slice a3 t.L.length c3, .bool t.s, .int .i64 0, .int .i64 0, .int .i64 0, .slice a4 0 c4, .bool false, .int .i64 0, .int .i64 0, .int .i64 0, .slice a5 0 c5, .bool false] w1 ∧ RowAt (w.heap.size + 1) #[.int .i64 5, .string ByteArray.empty, .int .i64 c, .int .i64 0, .int .i64 0] w1 ∧ RowAt (w.heap.size + 1 + 1) zcAn w1 ∧ Below w.heap.size w w1) ⟨((RowAt.new _ _ _).al _).al _, (RowAt.new1 _ _ _ _).al _, RowAt.new2 _ _ _ _ _, b3 _ _ _⟩ ?_
  rintro w1 ⟨r1, r2, r3, hb⟩
  have R1 := Lib.hid r1
  have Q1 := Lib.hid r2
  have Z1 := Lib.hid r3
  have B1 := Lib.hid hb
  clear r1 r2 r3 hb
  go_wp2_with (first
    | (refine ldi (v := .int .i64 5) rfl rfl rfl Q1.out rfl ?_)
    | (refine ldSk (B := #[.int .i64 4, .int .i64 t.S, .int .i64 0, .int .u64 0, .int .i64 0, .int .i64 0, .bool false, .int .i64 0, .int .i64 0, .int .u64 0, .slice a1 0 c1, .bool false, .int .i64 0, .int .u64 0, .slice a2 0 c2, .int .i64 t.S, .int .i64 t.T, .slice a3 t.L.length c3, .bool t.s, .int .i64 0, .int .i64 0, .int .i64 0, .slice a4 0 c4, .bool false, .int .i64 0, .int .i64 0, .int .i64 0, .slice a5 0 c5, .bool false]) rfl rfl rfl R1.out rfl (by kernel_rfl) ?_)
    | (go_at_call 46; (with_reducible refine (HC.out _ B1.out).mono ?_); rintro e w2 ⟨v, rfl, ho, hb2⟩; obtain ⟨aa, cc, rfl⟩ := ho.rd.shape; have O2 := Lib.hid ho; have G2 := Lib.hid Z1.out.lt; have hcc : t.L.length ≤ cc := (by obtain ⟨_, a9, c9, he9, h9, _⟩ := ho.rd; simp only [Value.slice.injEq, true_and] at he9; obtain ⟨rfl, rfl⟩ := he9; exact h9); have Q2 := Lib.hid (Q1.out.go hb2); have Z2 := Lib.hid (Z1.out.go hb2); have B2 := Lib.hid (bgo B1.out hb2); clear ho hb2 R1 Q1 Z1 B1)
    | (refine ldi (v := .int .i64 c) rfl rfl rfl Q2.out rfl ?_)
    | (refine wp_put1 (A' := #[.int .i64 0, .int .i64 0, .string ByteArray.empty, .slice none 0 0, .slice aa m cc, .bool false]) rfl rfl rfl Z2.out (v := .slice aa m cc) rfl (by kernel_rfl) rfl rfl (show 4 < 6 by decide) rfl ?_; intro w3 r3 o3; have Z3 := Lib.hid r3; have B3 := Lib.hid (B2.out.trans (o3.1.mono (by omega))); have O3 := Lib.hid (O2.out.oth o3 (by have := G2.out; omega)); clear r3 o3)
    | (refine ldAn (B := #[.int .i64 0, .int .i64 0, .string ByteArray.empty, .slice none 0 0, .slice aa m cc, .bool false]) rfl rfl rfl Z3.out rfl rfl ?_)
    | (refine stAn rfl rfl rfl Z3.out rfl rfl rfl rfl ?_; intro w4 r4 o4; have Z4 := Lib.hid r4; have B4 := Lib.hid (B3.out.trans (o4.1.mono (by omega))); have O4 := Lib.hid (O3.out.oth o4 (by have := G2.out; omega)); clear r4 o4))
  exact ret_row2 Tryz.results35 rfl rfl rfl Z4.out Tryz.underlying51 rfl infAn ⟨aa, cc, rfl, fun w5 h5 => ((O4.out.abv (h5.mono (by have := G2.out; omega))).rd).cutTo m hml, B4.out⟩
set_option maxRecDepth 100000 in
set_option maxHeartbeats 2000000 in
theorem as_top (t : TP) (a1 : Option Addr) (c1 : Nat) (a2 : Option Addr) (c2 : Nat) (a3 : Option Addr) (c3 : Nat) (a4 : Option Addr) (c4 : Nat) (a5 : Option Addr) (c5 : Nat) (c : Int) (m : Nat) (w : World) (hn : t.L.length ≤ 32) (h : RowsK (fmO t) (.slice a1 0 c1) (.slice a2 0 c2) (.slice a3 t.L.length c3) (.slice a4 0 c4) (.slice a5 0 c5) w) (hw : WfK (fmO t)) (hv : valK (fmO t) = 0) (c0 : 0 ≤ c) (c1' : c ≤ 32) (hm : min c (t.L.length : Int) = m) (ht : SupT w) :
    Calls Tryz.prog 15 #[.agg #[.int .i64 4, .int .i64 t.S, .int .i64 0, .int .u64 0, .int .i64 0, .int .i64 0, .bool false, .int .i64 0, .int .i64 0, .int .u64 0, .slice a1 0 c1, .bool false, .int .i64 0, .int .u64 0, .slice a2 0 c2, .int .i64 t.S, .int .i64 t.T, .slice a3 t.L.length c3, .bool t.s, .int .i64 0, .int .i64 0, .int .i64 0, .slice a4 0 c4, .bool false, .int .i64 0, .int .i64 0, .int .i64 0, .slice a5 0 c5, .bool false], .agg #[.int .i64 5, .string ByteArray.empty, .int .i64 c, .int .i64 0, .int .i64 0]] w fun e w' => ∃ aa cc, e = .returned (.tuple #[.agg #[.int .i64 0, .int .i64 0, .string ByteArray.empty, .slice none 0 0, .slice aa m cc, .bool t.s], .int .i64 0]) ∧ RdE (t.L.take m) (.slice aa m cc) w' ∧ Below w.heap.size w w' := by
  have HV : Hid (∀ w' : World, Below w.heap.size w w' → Calls Tryz.prog 34 #[.agg #[.int .i64 4, .int .i64 t.S, .int .i64 0, .int .u64 0, .int .i64 0, .int .i64 0, .bool false, .int .i64 0, .int .i64 0, .int .u64 0, .slice a1 0 c1, .bool false, .int .i64 0, .int .u64 0, .slice a2 0 c2, .int .i64 t.S, .int .i64 t.T, .slice a3 t.L.length c3, .bool t.s, .int .i64 0, .int .i64 0, .int .i64 0, .slice a4 0 c4, .bool false, .int .i64 0, .int .i64 0, .int .i64 0, .slice a5 0 c5, .bool false]] w' fun e w2 => e = .returned (.int .i64 0) ∧ Below w'.heap.size w' w2) := Lib.hid (fun w' hb => by
    have := val_row (fmO t) a1 c1 a2 c2 a3 c3 a4 c4 a5 c5 w' hw (h.below hb)
    rw [hv] at this
    exact this)
  have HQ := Lib.hid (fun w => pqv_any 5 ByteArray.empty c 0 0 w (by decide))
  rw [qr_top c0 c1'] at HQ
  have HA := Lib.hid (fun (w' : World) (hb : Below w.heap.size w w') => an_top t a1 c1 a2 c2 a3 c3 a4 c4 a5 c5 c m w' hn (h.below hb) c0 hm)
  have HS := Lib.hid (fun w => sat_top t a1 c1 a2 c2 a3 c3 a4 c4 a5 c5 w)
  have T0 := Lib.hid ht
  have hml : Hid (m ≤ t.L.length) := Lib.hid (by omega)
  clear h ht hm c1'
  generalize t.L.take m = Lm at *
  go_enter Tryz.func15, Tryz.ntmps15
  go_upto_region 1 with (fail)
  refine wp_genW (fun w1 => RowAt w.heap.size #[.int .i64 4, .int .i64 t.S, .int .i64 0, .int .u64 0, .int .i64 0, .int .i64 0, .bool false, .int .i64 0, .int .i64 0, .int .u64 0, .slice a1 0 c1, .bool false, .int .i64 0, .int .u64 0, .slice a2 0 c2, .int .i64 t.S, .int .i64 t.T, .slice a3 t.L.length c3, .bool t.s, .int .i64 0, .int .i64 0, .int .i64 0, .slice a4 0 c4, .bool false, .int .i64 0, .int .i64 0, .int .i64 0, .slice a5 0 c5, .bool false] w1 ∧ RowAt (w.heap.size + 1) #[.int .i64 5, .string ByteArray.empty, .int .i64 c, .int .i64 0, .int .i64 0] w1 ∧ RowAt (w.heap.size + 1 + 1) zcAn w1 ∧ Below w.heap.size w w1) ⟨((RowAt.new _ _ _).al _).al _, (RowAt.new1 _ _ _ _).al _, RowAt.new2 _ _ _ _ _, b3 _ _ _⟩ ?_
  rintro w1 ⟨r1, r2, r3, hb⟩
  have R1 := Lib.hid r1
  have Q1 := Lib.hid r2
  have Z1 := Lib.hid r3
  have B1 := Lib.hid hb
  clear r1 r2 r3 hb
  go_upto_region 7 with (first
    | (refine ldSk (B := #[.int .i64 4, .int .i64 t.S, .int .i64 0, .int .u64 0, .int .i64 0, .int .i64 0, .bool false, .int .i64 0, .int .i64 0, .int .u64 0, .slice a1 0 c1, .bool false, .int .i64 0, .int .u64 0, .slice a2 0 c2, .int .i64 t.S, .int .i64 t.T, .slice a3 t.L.length c3, .bool t.s, .int .i64 0, .int .i64 0, .int .i64 0, .slice a4 0 c4, .bool false, .int .i64 0, .int .i64 0, .int .i64 0, .slice a5 0 c5, .bool false]) rfl rfl rfl R1.out rfl (by kernel_rfl) ?_)
    | (go_at_call 34; (with_reducible refine (HV.out _ B1.out).mono ?_); rintro e w2 ⟨rfl, hb2⟩; have R2 := Lib.hid (R1.out.go hb2); have Q2 := Lib.hid (Q1.out.go hb2); have Z2 := Lib.hid (Z1.out.go hb2); have B2 := Lib.hid (bgo B1.out hb2); clear hb2 R1 Q1 Z1 B1)
    | (refine ldQr (B := #[.int .i64 5, .string ByteArray.empty, .int .i64 c, .int .i64 0, .int .i64 0]) rfl rfl rfl Q2.out rfl rfl ?_)
    | (go_at_call 11; (with_reducible refine (HQ.out _).mono ?_); rintro e w3 ⟨rfl, hb3⟩; have R3 := Lib.hid (R2.out.go hb3); have Q3 := Lib.hid (Q2.out.go hb3); have Z3 := Lib.hid (Z2.out.go hb3); have B3 := Lib.hid (bgo B2.out hb3); clear hb3 R2 Q2 Z2 B2))
  have c0' := R3.out.cell (j := 0) (v := .int .i64 4) rfl
  have c1' := Q3.out.cell (j := 0) (v := .int .i64 5) rfl
  have lt1 := R3.out.lt
  have lt2 := Q3.out.lt
  have T3 := T0.out.go B3.out
  have c2' : w3.cell? ⟨0, 39, none⟩ = some (.bool true) := T3.2 5 4 _ _ rfl rfl
  have lt3 := T3.1
  go_region
  rename_i K hK
  clear c0' c1' c2' lt1 lt2 lt3 T3
  refine hK _ _ ?_
  clear hK
  refine wp_genW (fun w4 => RowAt w.heap.size #[.int .i64 4, .int .i64 t.S, .int .i64 0, .int .u64 0, .int .i64 0, .int .i64 0, .bool false, .int .i64 0, .int .i64 0, .int .u64 0, .slice a1 0 c1, .bool false, .int .i64 0, .int .u64 0, .slice a2 0 c2, .int .i64 t.S, .int .i64 t.T, .slice a3 t.L.length c3, .bool t.s, .int .i64 0, .int .i64 0, .int .i64 0, .slice a4 0 c4, .bool false, .int .i64 0, .int .i64 0, .int .i64 0, .slice a5 0 c5, .bool false] w4 ∧ RowAt (w.heap.size + 1) #[.int .i64 5, .string ByteArray.empty, .int .i64 c, .int .i64 0, .int .i64 0] w4 ∧ RowAt (w.heap.size + 1 + 1) zcAn w4 ∧ Below w.heap.size w w4) ⟨by first | exact R3.out | exact R3.out.drew, by first | exact Q3.out | exact Q3.out.drew, by first | exact Z3.out | exact Z3.out.drew, by first | exact B3.out | exact below_drew B3.out⟩ ?_
  rintro w4 ⟨r4, q4, z4, hb4⟩
  have R4 := Lib.hid r4
  have Q4 := Lib.hid q4
  have Z4 := Lib.hid z4
  have B4 := Lib.hid hb4
  clear r4 q4 z4 hb4 R3 Q3 Z3 B3
  go_wp2_with (first
    | (refine ldSk (B := #[.int .i64 4, .int .i64 t.S, .int .i64 0, .int .u64 0, .int .i64 0, .int .i64 0, .bool false, .int .i64 0, .int .i64 0, .int .u64 0, .slice a1 0 c1, .bool false, .int .i64 0, .int .u64 0, .slice a2 0 c2, .int .i64 t.S, .int .i64 t.T, .slice a3 t.L.length c3, .bool t.s, .int .i64 0, .int .i64 0, .int .i64 0, .slice a4 0 c4, .bool false, .int .i64 0, .int .i64 0, .int .i64 0, .slice a5 0 c5, .bool false]) rfl rfl rfl R4.out rfl (by kernel_rfl) ?_)
    | (refine ldQr (B := #[.int .i64 5, .string ByteArray.empty, .int .i64 c, .int .i64 0, .int .i64 0]) rfl rfl rfl Q4.out rfl rfl ?_)
    | (go_at_call 35; (with_reducible refine (HA.out _ B4.out).mono ?_); rintro e w5 ⟨aa, cc, rfl, ho5, hb5⟩; have R5 := Lib.hid (R4.out.go hb5); have Z5 := Lib.hid (Z4.out.go hb5); have B5 := Lib.hid (bgo B4.out hb5); have O5 := Lib.hid ho5; have Z4' := Lib.hid Z4.out.lt; clear ho5 hb5 R4 Q4 Z4 B4)
    | (refine stAn rfl rfl rfl (RowAt.new w5 _ _) rfl rfl rfl rfl ?_; intro w6 r6 o6; have S6 := Lib.hid r6; have D6 := Lib.hid (Below.trans (b1 _) (o6.1 : Below w5.heap.size _ w6)); have R6 := Lib.hid (R5.out.go D6.out); have Z6 := Lib.hid (Z5.out.go D6.out); have B6 := Lib.hid (bgo B5.out D6.out); have L6 : Hid (w.heap.size + 1 + 1 < w5.heap.size) := Lib.hid Z5.out.lt; have G4 := Lib.hid Z4'.out; clear r6 o6 R5 B5 Z5)
    | (refine ldSk (B := #[.int .i64 4, .int .i64 t.S, .int .i64 0, .int .u64 0, .int .i64 0, .int .i64 0, .bool false, .int .i64 0, .int .i64 0, .int .u64 0, .slice a1 0 c1, .bool false, .int .i64 0, .int .u64 0, .slice a2 0 c2, .int .i64 t.S, .int .i64 t.T, .slice a3 t.L.length c3, .bool t.s, .int .i64 0, .int .i64 0, .int .i64 0, .slice a4 0 c4, .bool false, .int .i64 0, .int .i64 0, .int .i64 0, .slice a5 0 c5, .bool false]) rfl rfl rfl R6.out rfl (by kernel_rfl) ?_)
    | (go_at_call 36; (with_reducible refine (HS.out _).mono ?_); rintro e w7 ⟨rfl, hb7⟩; have S7 := Lib.hid (S6.out.go hb7); have Z7 := Lib.hid (Z6.out.go hb7); have B7 := Lib.hid (bgo B6.out hb7); have D7 := Lib.hid (D6.out.trans (hb7.mono D6.out.size)); clear hb7 R6 S6 Z6 B6)
    | (refine stcb (A' := #[.int .i64 0, .int .i64 0, .string ByteArray.empty, .slice none 0 0, .slice aa m cc, .bool t.s]) rfl rfl rfl S7.out rfl (show 5 < 6 by decide) rfl ?_; intro w8 r8 o8; have S8 := Lib.hid r8; have Z8 := Lib.hid (Z7.out.oth o8 (by have := L6.out; omega)); have B8 := Lib.hid (B7.out.trans (o8.1.mono (by have := L6.out; omega))); have D8 := Lib.hid (D7.out.trans o8.1); clear r8 o8 S7 Z7 B7)
    | (refine ldAn (B := #[.int .i64 0, .int .i64 0, .string ByteArray.empty, .slice none 0 0, .slice aa m cc, .bool t.s]) rfl rfl rfl S8.out rfl rfl ?_)
    | (refine stAn rfl rfl rfl Z8.out rfl rfl rfl rfl ?_; intro w9 r9 o9; have Z9 := Lib.hid r9; have B9 := Lib.hid (B8.out.trans (o9.1.mono (by omega))); have P9 := Lib.hid (O5.out w9 ((Abv.below D8.out).trans (Abv.oth o9 (by have := G4.out; omega)))); clear r9 o9))
  exact ret_row2 Tryz.results15 rfl rfl rfl Z9.out Tryz.underlying51 rfl infAn ⟨aa, cc, rfl, P9.out, B9.out⟩
set_option maxRecDepth 100000 in
set_option maxHeartbeats 2000000 in
theorem en_frq (f : FQ) (a1 : Option Addr) (c1 : Nat) (a2 : Option Addr) (c2 : Nat) (a3 : Option Addr) (c3 : Nat) (a4 : Option Addr) (c4 : Nat) (a5 : Option Addr) (c5 : Nat) (w : World) (hn : f.L.length ≤ 12) (hK : -9223372036854775808 ≤ f.K ∧ f.K ≤ 9223372036854775807) (h : RowsK (fmQ f) (.slice a1 0 c1) (.slice a2 0 c2) (.slice a3 0 c3) (.slice a4 f.L.length c4) (.slice a5 0 c5) w) (hw : WfK (fmQ f)) (hv : valK (fmQ f) = 0) (ht : SupT w) :
    Calls Tryz.prog 18 #[.agg #[.int .i64 5, .int .i64 f.S, .int .i64 0, .int .u64 0, .int .i64 0, .int .i64 0, .bool false, .int .i64 0, .int .i64 0, .int .u64 0, .slice a1 0 c1, .bool false, .int .i64 0, .int .u64 0, .slice a2 0 c2, .int .i64 0, .int .i64 0, .slice a3 0 c3, .bool false, .int .i64 f.S, .int .i64 f.T, .int .i64 f.K, .slice a4 f.L.length c4, .bool f.s, .int .i64 0, .int .i64 0, .int .i64 0, .slice a5 0 c5, .bool false]] w fun e w' => ∃ v, e = .returned (.tuple #[v, .int .i64 0]) ∧ RdE (sortE (f.L.map (setE f.K))) v w' ∧ Below w.heap.size w w' := by
  have HV : Hid (∀ w' : World, Below w.heap.size w w' → Calls Tryz.prog 34 #[.agg #[.int .i64 5, .int .i64 f.S, .int .i64 0, .int .u64 0, .int .i64 0, .int .i64 0, .bool false, .int .i64 0, .int .i64 0, .int .u64 0, .slice a1 0 c1, .bool false, .int .i64 0, .int .u64 0, .slice a2 0 c2, .int .i64 0, .int .i64 0, .slice a3 0 c3, .bool false, .int .i64 f.S, .int .i64 f.T, .int .i64 f.K, .slice a4 f.L.length c4, .bool f.s, .int .i64 0, .int .i64 0, .int .i64 0, .slice a5 0 c5, .bool false]] w' fun e w2 => e = .returned (.int .i64 0) ∧ Below w'.heap.size w' w2) := Lib.hid (fun w' hb => by
    have := val_row (fmQ f) a1 c1 a2 c2 a3 c3 a4 c4 a5 c5 w' hw (h.below hb)
    rw [hv] at this
    exact this)
  have HC : Hid (∀ w' : World, Below w.heap.size w w' → Calls Tryz.prog 46 #[.agg #[.int .i64 5, .int .i64 f.S, .int .i64 0, .int .u64 0, .int .i64 0, .int .i64 0, .bool false, .int .i64 0, .int .i64 0, .int .u64 0, .slice a1 0 c1, .bool false, .int .i64 0, .int .u64 0, .slice a2 0 c2, .int .i64 0, .int .i64 0, .slice a3 0 c3, .bool false, .int .i64 f.S, .int .i64 f.T, .int .i64 f.K, .slice a4 f.L.length c4, .bool f.s, .int .i64 0, .int .i64 0, .int .i64 0, .slice a5 0 c5, .bool false]] w' fun e w2 => ∃ v, e = .returned v ∧ OwnE w'.heap.size (sortE (f.L.map (setE f.K))) v w2 ∧ Below w'.heap.size w' w2) := Lib.hid (fun w' hb => bc_frq f a1 c1 a2 c2 a3 c3 a4 c4 a5 c5 w' (h.below hb) hn hK)
  have T0 := Lib.hid ht
  clear h ht
  go_enter Tryz.func18, Tryz.ntmps18
  go_upto_region 1 with (fail)
  refine wp_genW (fun w1 => RowAt w.heap.size #[.int .i64 5, .int .i64 f.S, .int .i64 0, .int .u64 0, .int .i64 0, .int .i64 0, .bool false, .int .i64 0, .int .i64 0, .int .u64 0, .slice a1 0 c1, .bool false, .int .i64 0, .int .u64 0, .slice a2 0 c2, .int .i64 0, .int .i64 0, .slice a3 0 c3, .bool false, .int .i64 f.S, .int .i64 f.T, .int .i64 f.K, .slice a4 f.L.length c4, .bool f.s, .int .i64 0, .int .i64 0, .int .i64 0, .slice a5 0 c5, .bool false] w1 ∧ Below w.heap.size w w1) ⟨RowAt.new _ _ _, b1 _⟩ ?_
  rintro w1 ⟨r1, hb⟩
  have R1 := Lib.hid r1
  have B1 := Lib.hid hb
  clear r1 hb
  go_upto_region 4 with (first
    | (refine ldSk (B := #[.int .i64 5, .int .i64 f.S, .int .i64 0, .int .u64 0, .int .i64 0, .int .i64 0, .bool false, .int .i64 0, .int .i64 0, .int .u64 0, .slice a1 0 c1, .bool false, .int .i64 0, .int .u64 0, .slice a2 0 c2, .int .i64 0, .int .i64 0, .slice a3 0 c3, .bool false, .int .i64 f.S, .int .i64 f.T, .int .i64 f.K, .slice a4 f.L.length c4, .bool f.s, .int .i64 0, .int .i64 0, .int .i64 0, .slice a5 0 c5, .bool false]) rfl rfl rfl R1.out rfl (by kernel_rfl) ?_)
    | (go_at_call 34; (with_reducible refine (HV.out _ B1.out).mono ?_); rintro e w2 ⟨rfl, hb2⟩; have R2 := Lib.hid (R1.out.go hb2); have B2 := Lib.hid (bgo B1.out hb2); clear hb2 R1 B1))
  have T2 := T0.out.go B2.out
  have c2' : w2.cell? ⟨0, 40, none⟩ = some (.bool true) := T2.2 5 5 _ _ rfl rfl
  have lt3 := T2.1
  go_wp2_with (first
    | (refine ldi (v := .int .i64 5) rfl rfl rfl R2.out rfl ?_)
    | (refine ldSk (B := #[.int .i64 5, .int .i64 f.S, .int .i64 0, .int .u64 0, .int .i64 0, .int .i64 0, .bool false, .int .i64 0, .int .i64 0, .int .u64 0, .slice a1 0 c1, .bool false, .int .i64 0, .int .u64 0, .slice a2 0 c2, .int .i64 0, .int .i64 0, .slice a3 0 c3, .bool false, .int .i64 f.S, .int .i64 f.T, .int .i64 f.K, .slice a4 f.L.length c4, .bool f.s, .int .i64 0, .int .i64 0, .int .i64 0, .slice a5 0 c5, .bool false]) rfl rfl rfl R2.out rfl (by kernel_rfl) ?_)
    | (go_at_call 46; (with_reducible refine (HC.out _ B2.out).mono ?_); rintro e w3 ⟨v, rfl, ho, hb3⟩; have O3 := Lib.hid ho.rd; have B3 := Lib.hid (bgo B2.out hb3); clear ho hb3))
  go_ret2
  exact ⟨_, rfl, O3.out, B3.out⟩
set_option maxRecDepth 100000 in
set_option maxHeartbeats 2000000 in
theorem sat_frq (f : FQ) (a1 : Option Addr) (c1 : Nat) (a2 : Option Addr) (c2 : Nat) (a3 : Option Addr) (c3 : Nat) (a4 : Option Addr) (c4 : Nat) (a5 : Option Addr) (c5 : Nat) (w : World) :
    Calls Tryz.prog 36 #[.agg #[.int .i64 5, .int .i64 f.S, .int .i64 0, .int .u64 0, .int .i64 0, .int .i64 0, .bool false, .int .i64 0, .int .i64 0, .int .u64 0, .slice a1 0 c1, .bool false, .int .i64 0, .int .u64 0, .slice a2 0 c2, .int .i64 0, .int .i64 0, .slice a3 0 c3, .bool false, .int .i64 f.S, .int .i64 f.T, .int .i64 f.K, .slice a4 f.L.length c4, .bool f.s, .int .i64 0, .int .i64 0, .int .i64 0, .slice a5 0 c5, .bool false]] w fun e w' => e = .returned (.bool f.s) ∧ Below w.heap.size w w' := by
  go_enter Tryz.func36, Tryz.ntmps36
  go_upto_region 1 with (fail)
  refine wp_genW (fun w1 => RowAt w.heap.size #[.int .i64 5, .int .i64 f.S, .int .i64 0, .int .u64 0, .int .i64 0, .int .i64 0, .bool false, .int .i64 0, .int .i64 0, .int .u64 0, .slice a1 0 c1, .bool false, .int .i64 0, .int .u64 0, .slice a2 0 c2, .int .i64 0, .int .i64 0, .slice a3 0 c3, .bool false, .int .i64 f.S, .int .i64 f.T, .int .i64 f.K, .slice a4 f.L.length c4, .bool f.s, .int .i64 0, .int .i64 0, .int .i64 0, .slice a5 0 c5, .bool false] w1 ∧ Below w.heap.size w w1) ⟨RowAt.new _ _ _, b1 _⟩ ?_
  rintro w1 ⟨r1, hb⟩
  have R1 := Lib.hid r1
  have B1 := Lib.hid hb
  clear r1 hb
  go_wp2_with (first
    | (refine ldi (v := .int .i64 5) rfl rfl rfl R1.out rfl ?_)
    | (refine ldb (v := .bool f.s) rfl rfl rfl R1.out rfl ?_))
  go_ret
  exact ⟨rfl, B1.out⟩
set_option maxRecDepth 100000 in
set_option maxHeartbeats 2000000 in
theorem an_frq (f : FQ) (a1 : Option Addr) (c1 : Nat) (a2 : Option Addr) (c2 : Nat) (a3 : Option Addr) (c3 : Nat) (a4 : Option Addr) (c4 : Nat) (a5 : Option Addr) (c5 : Nat) (c : Int) (m : Nat) (w : World) (hn : f.L.length ≤ 12) (hK : -9223372036854775808 ≤ f.K ∧ f.K ≤ 9223372036854775807) (h : RowsK (fmQ f) (.slice a1 0 c1) (.slice a2 0 c2) (.slice a3 0 c3) (.slice a4 f.L.length c4) (.slice a5 0 c5) w) (c0 : 0 ≤ c) (hm : min c ((sortE (f.L.map (setE f.K))).length : Int) = m) :
    Calls Tryz.prog 35 #[.agg #[.int .i64 5, .int .i64 f.S, .int .i64 0, .int .u64 0, .int .i64 0, .int .i64 0, .bool false, .int .i64 0, .int .i64 0, .int .u64 0, .slice a1 0 c1, .bool false, .int .i64 0, .int .u64 0, .slice a2 0 c2, .int .i64 0, .int .i64 0, .slice a3 0 c3, .bool false, .int .i64 f.S, .int .i64 f.T, .int .i64 f.K, .slice a4 f.L.length c4, .bool f.s, .int .i64 0, .int .i64 0, .int .i64 0, .slice a5 0 c5, .bool false], .agg #[.int .i64 5, .string ByteArray.empty, .int .i64 c, .int .i64 0, .int .i64 0]] w fun e w' => ∃ aa cc, e = .returned (.tuple #[.agg #[.int .i64 0, .int .i64 0, .string ByteArray.empty, .slice none 0 0, .slice aa m cc, .bool false], .int .i64 0]) ∧ (∀ w3, Abv (w.heap.size + 3) w' w3 → RdE ((sortE (f.L.map (setE f.K))).take m) (.slice aa m cc) w3) ∧ Below w.heap.size w w' := by
  have HC : Hid (∀ w' : World, Below w.heap.size w w' → Calls Tryz.prog 46 #[.agg #[.int .i64 5, .int .i64 f.S, .int .i64 0, .int .u64 0, .int .i64 0, .int .i64 0, .bool false, .int .i64 0, .int .i64 0, .int .u64 0, .slice a1 0 c1, .bool false, .int .i64 0, .int .u64 0, .slice a2 0 c2, .int .i64 0, .int .i64 0, .slice a3 0 c3, .bool false, .int .i64 f.S, .int .i64 f.T, .int .i64 f.K, .slice a4 f.L.length c4, .bool f.s, .int .i64 0, .int .i64 0, .int .i64 0, .slice a5 0 c5, .bool false]] w' fun e w2 => ∃ v, e = .returned v ∧ OwnE w'.heap.size (sortE (f.L.map (setE f.K))) v w2 ∧ Below w'.heap.size w' w2) := Lib.hid (fun w' hb => bc_frq f a1 c1 a2 c2 a3 c3 a4 c4 a5 c5 w' (h.below hb) hn hK)
  have HL := Lib.hid (show (sortE (f.L.map (setE f.K))).length ≤ 1099511627776 from Nat.le_trans (by rw [sortE_len, List.length_map]; omega) (by decide))
  generalize (sortE (f.L.map (setE f.K))) = Ls at *
  have hml : m ≤ Ls.length := by omega
  clear h
  go_enter Tryz.func35, Tryz.ntmps35
  go_upto_region 1 with (fail)
  refine wp_genW (fun w1 => RowAt w.heap.size #[.int .i64 5, .int .i64 f.S, .int .i64 0, .int .u64 0, .int .i64 0, .int .i64 0, .bool false, .int .i64 0, .int .i64 0, .int .u64 0, .slice a1 0 c1, .bool false, .int .i64 0, .int .u64 0, .slice a2 0 c2, .int .i64 0, .int .i64 0, .slice a3 0 c3, .bool false, .int .i64 f.S, .int .i64 f.T, .int .i64 f.K, .slice a4 f.L.length c4, .bool f.s, .int .i64 0, .int .i64 0, .int .i64 0, .slice a5 0 c5, .bool false] w1 ∧ RowAt (w.heap.size + 1) #[.int .i64 5, .string ByteArray.empty, .int .i64 c, .int .i64 0, .int .i64 0] w1 ∧ RowAt (w.heap.size + 1 + 1) zcAn w1 ∧ Below w.heap.size w w1) ⟨((RowAt.new _ _ _).al _).al _, (RowAt.new1 _ _ _ _).al _, RowAt.new2 _ _ _ _ _, b3 _ _ _⟩ ?_
  rintro w1 ⟨r1, r2, r3, hb⟩
  have R1 := Lib.hid r1
  have Q1 := Lib.hid r2
  have Z1 := Lib.hid r3
  have B1 := Lib.hid hb
  clear r1 r2 r3 hb
  go_wp2_with (first
    | (refine ldi (v := .int .i64 5) rfl rfl rfl Q1.out rfl ?_)
    | (refine ldSk (B := #[.int .i64 5, .int .i64 f.S, .int .i64 0, .int .u64 0, .int .i64 0, .int .i64 0, .bool false, .int .i64 0, .int .i64 0, .int .u64 0, .slice a1 0 c1, .bool false, .int .i64 0, .int .u64 0, .slice a2 0 c2, .int .i64 0, .int .i64 0, .slice a3 0 c3, .bool false, .int .i64 f.S, .int .i64 f.T, .int .i64 f.K, .slice a4 f.L.length c4, .bool f.s, .int .i64 0, .int .i64 0, .int .i64 0, .slice a5 0 c5, .bool false]) rfl rfl rfl R1.out rfl (by kernel_rfl) ?_)
    | (go_at_call 46; (with_reducible refine (HC.out _ B1.out).mono ?_); rintro e w2 ⟨v, rfl, ho, hb2⟩; obtain ⟨aa, cc, rfl⟩ := ho.rd.shape; have O2 := Lib.hid ho; have G2 := Lib.hid Z1.out.lt; have hcc : Ls.length ≤ cc := (by obtain ⟨_, a9, c9, he9, h9, _⟩ := ho.rd; simp only [Value.slice.injEq, true_and] at he9; obtain ⟨rfl, rfl⟩ := he9; exact h9); have Q2 := Lib.hid (Q1.out.go hb2); have Z2 := Lib.hid (Z1.out.go hb2); have B2 := Lib.hid (bgo B1.out hb2); clear ho hb2 R1 Q1 Z1 B1)
    | (refine ldi (v := .int .i64 c) rfl rfl rfl Q2.out rfl ?_)
    | (refine wp_put1 (A' := #[.int .i64 0, .int .i64 0, .string ByteArray.empty, .slice none 0 0, .slice aa m cc, .bool false]) rfl rfl rfl Z2.out (v := .slice aa m cc) rfl (by kernel_rfl) rfl rfl (show 4 < 6 by decide) rfl ?_; intro w3 r3 o3; have Z3 := Lib.hid r3; have B3 := Lib.hid (B2.out.trans (o3.1.mono (by omega))); have O3 := Lib.hid (O2.out.oth o3 (by have := G2.out; omega)); clear r3 o3)
    | (refine ldAn (B := #[.int .i64 0, .int .i64 0, .string ByteArray.empty, .slice none 0 0, .slice aa m cc, .bool false]) rfl rfl rfl Z3.out rfl rfl ?_)
    | (refine stAn rfl rfl rfl Z3.out rfl rfl rfl rfl ?_; intro w4 r4 o4; have Z4 := Lib.hid r4; have B4 := Lib.hid (B3.out.trans (o4.1.mono (by omega))); have O4 := Lib.hid (O3.out.oth o4 (by have := G2.out; omega)); clear r4 o4))
  exact ret_row2 Tryz.results35 rfl rfl rfl Z4.out Tryz.underlying51 rfl infAn ⟨aa, cc, rfl, fun w5 h5 => ((O4.out.abv (h5.mono (by have := G2.out; omega))).rd).cutTo m hml, B4.out⟩
set_option maxRecDepth 100000 in
set_option maxHeartbeats 2000000 in
theorem as_frq (f : FQ) (a1 : Option Addr) (c1 : Nat) (a2 : Option Addr) (c2 : Nat) (a3 : Option Addr) (c3 : Nat) (a4 : Option Addr) (c4 : Nat) (a5 : Option Addr) (c5 : Nat) (c : Int) (m : Nat) (w : World) (hn : f.L.length ≤ 12) (hK : -9223372036854775808 ≤ f.K ∧ f.K ≤ 9223372036854775807) (h : RowsK (fmQ f) (.slice a1 0 c1) (.slice a2 0 c2) (.slice a3 0 c3) (.slice a4 f.L.length c4) (.slice a5 0 c5) w) (hw : WfK (fmQ f)) (hv : valK (fmQ f) = 0) (c0 : 0 ≤ c) (c1' : c ≤ 32) (hm : min c ((sortE (f.L.map (setE f.K))).length : Int) = m) (ht : SupT w) :
    Calls Tryz.prog 15 #[.agg #[.int .i64 5, .int .i64 f.S, .int .i64 0, .int .u64 0, .int .i64 0, .int .i64 0, .bool false, .int .i64 0, .int .i64 0, .int .u64 0, .slice a1 0 c1, .bool false, .int .i64 0, .int .u64 0, .slice a2 0 c2, .int .i64 0, .int .i64 0, .slice a3 0 c3, .bool false, .int .i64 f.S, .int .i64 f.T, .int .i64 f.K, .slice a4 f.L.length c4, .bool f.s, .int .i64 0, .int .i64 0, .int .i64 0, .slice a5 0 c5, .bool false], .agg #[.int .i64 5, .string ByteArray.empty, .int .i64 c, .int .i64 0, .int .i64 0]] w fun e w' => ∃ aa cc, e = .returned (.tuple #[.agg #[.int .i64 0, .int .i64 0, .string ByteArray.empty, .slice none 0 0, .slice aa m cc, .bool f.s], .int .i64 0]) ∧ RdE ((sortE (f.L.map (setE f.K))).take m) (.slice aa m cc) w' ∧ Below w.heap.size w w' := by
  have HV : Hid (∀ w' : World, Below w.heap.size w w' → Calls Tryz.prog 34 #[.agg #[.int .i64 5, .int .i64 f.S, .int .i64 0, .int .u64 0, .int .i64 0, .int .i64 0, .bool false, .int .i64 0, .int .i64 0, .int .u64 0, .slice a1 0 c1, .bool false, .int .i64 0, .int .u64 0, .slice a2 0 c2, .int .i64 0, .int .i64 0, .slice a3 0 c3, .bool false, .int .i64 f.S, .int .i64 f.T, .int .i64 f.K, .slice a4 f.L.length c4, .bool f.s, .int .i64 0, .int .i64 0, .int .i64 0, .slice a5 0 c5, .bool false]] w' fun e w2 => e = .returned (.int .i64 0) ∧ Below w'.heap.size w' w2) := Lib.hid (fun w' hb => by
    have := val_row (fmQ f) a1 c1 a2 c2 a3 c3 a4 c4 a5 c5 w' hw (h.below hb)
    rw [hv] at this
    exact this)
  have HQ := Lib.hid (fun w => pqv_any 5 ByteArray.empty c 0 0 w (by decide))
  rw [qr_top c0 c1'] at HQ
  have HA := Lib.hid (fun (w' : World) (hb : Below w.heap.size w w') => an_frq f a1 c1 a2 c2 a3 c3 a4 c4 a5 c5 c m w' hn hK (h.below hb) c0 hm)
  have HS := Lib.hid (fun w => sat_frq f a1 c1 a2 c2 a3 c3 a4 c4 a5 c5 w)
  have T0 := Lib.hid ht
  have hml : Hid (m ≤ (sortE (f.L.map (setE f.K))).length) := Lib.hid (by omega)
  clear h ht hm c1'
  generalize (sortE (f.L.map (setE f.K))).take m = Lm at *
  go_enter Tryz.func15, Tryz.ntmps15
  go_upto_region 1 with (fail)
  refine wp_genW (fun w1 => RowAt w.heap.size #[.int .i64 5, .int .i64 f.S, .int .i64 0, .int .u64 0, .int .i64 0, .int .i64 0, .bool false, .int .i64 0, .int .i64 0, .int .u64 0, .slice a1 0 c1, .bool false, .int .i64 0, .int .u64 0, .slice a2 0 c2, .int .i64 0, .int .i64 0, .slice a3 0 c3, .bool false, .int .i64 f.S, .int .i64 f.T, .int .i64 f.K, .slice a4 f.L.length c4, .bool f.s, .int .i64 0, .int .i64 0, .int .i64 0, .slice a5 0 c5, .bool false] w1 ∧ RowAt (w.heap.size + 1) #[.int .i64 5, .string ByteArray.empty, .int .i64 c, .int .i64 0, .int .i64 0] w1 ∧ RowAt (w.heap.size + 1 + 1) zcAn w1 ∧ Below w.heap.size w w1) ⟨((RowAt.new _ _ _).al _).al _, (RowAt.new1 _ _ _ _).al _, RowAt.new2 _ _ _ _ _, b3 _ _ _⟩ ?_
  rintro w1 ⟨r1, r2, r3, hb⟩
  have R1 := Lib.hid r1
  have Q1 := Lib.hid r2
  have Z1 := Lib.hid r3
  have B1 := Lib.hid hb
  clear r1 r2 r3 hb
  go_upto_region 7 with (first
    | (refine ldSk (B := #[.int .i64 5, .int .i64 f.S, .int .i64 0, .int .u64 0, .int .i64 0, .int .i64 0, .bool false, .int .i64 0, .int .i64 0, .int .u64 0, .slice a1 0 c1, .bool false, .int .i64 0, .int .u64 0, .slice a2 0 c2, .int .i64 0, .int .i64 0, .slice a3 0 c3, .bool false, .int .i64 f.S, .int .i64 f.T, .int .i64 f.K, .slice a4 f.L.length c4, .bool f.s, .int .i64 0, .int .i64 0, .int .i64 0, .slice a5 0 c5, .bool false]) rfl rfl rfl R1.out rfl (by kernel_rfl) ?_)
    | (go_at_call 34; (with_reducible refine (HV.out _ B1.out).mono ?_); rintro e w2 ⟨rfl, hb2⟩; have R2 := Lib.hid (R1.out.go hb2); have Q2 := Lib.hid (Q1.out.go hb2); have Z2 := Lib.hid (Z1.out.go hb2); have B2 := Lib.hid (bgo B1.out hb2); clear hb2 R1 Q1 Z1 B1)
    | (refine ldQr (B := #[.int .i64 5, .string ByteArray.empty, .int .i64 c, .int .i64 0, .int .i64 0]) rfl rfl rfl Q2.out rfl rfl ?_)
    | (go_at_call 11; (with_reducible refine (HQ.out _).mono ?_); rintro e w3 ⟨rfl, hb3⟩; have R3 := Lib.hid (R2.out.go hb3); have Q3 := Lib.hid (Q2.out.go hb3); have Z3 := Lib.hid (Z2.out.go hb3); have B3 := Lib.hid (bgo B2.out hb3); clear hb3 R2 Q2 Z2 B2))
  have c0' := R3.out.cell (j := 0) (v := .int .i64 5) rfl
  have c1' := Q3.out.cell (j := 0) (v := .int .i64 5) rfl
  have lt1 := R3.out.lt
  have lt2 := Q3.out.lt
  have T3 := T0.out.go B3.out
  have c2' : w3.cell? ⟨0, 40, none⟩ = some (.bool true) := T3.2 5 5 _ _ rfl rfl
  have lt3 := T3.1
  go_region
  rename_i K hK
  clear c0' c1' c2' lt1 lt2 lt3 T3
  refine hK _ _ ?_
  clear hK
  refine wp_genW (fun w4 => RowAt w.heap.size #[.int .i64 5, .int .i64 f.S, .int .i64 0, .int .u64 0, .int .i64 0, .int .i64 0, .bool false, .int .i64 0, .int .i64 0, .int .u64 0, .slice a1 0 c1, .bool false, .int .i64 0, .int .u64 0, .slice a2 0 c2, .int .i64 0, .int .i64 0, .slice a3 0 c3, .bool false, .int .i64 f.S, .int .i64 f.T, .int .i64 f.K, .slice a4 f.L.length c4, .bool f.s, .int .i64 0, .int .i64 0, .int .i64 0, .slice a5 0 c5, .bool false] w4 ∧ RowAt (w.heap.size + 1) #[.int .i64 5, .string ByteArray.empty, .int .i64 c, .int .i64 0, .int .i64 0] w4 ∧ RowAt (w.heap.size + 1 + 1) zcAn w4 ∧ Below w.heap.size w w4) ⟨by first | exact R3.out | exact R3.out.drew, by first | exact Q3.out | exact Q3.out.drew, by first | exact Z3.out | exact Z3.out.drew, by first | exact B3.out | exact below_drew B3.out⟩ ?_
  rintro w4 ⟨r4, q4, z4, hb4⟩
  have R4 := Lib.hid r4
  have Q4 := Lib.hid q4
  have Z4 := Lib.hid z4
  have B4 := Lib.hid hb4
  clear r4 q4 z4 hb4 R3 Q3 Z3 B3
  go_wp2_with (first
    | (refine ldSk (B := #[.int .i64 5, .int .i64 f.S, .int .i64 0, .int .u64 0, .int .i64 0, .int .i64 0, .bool false, .int .i64 0, .int .i64 0, .int .u64 0, .slice a1 0 c1, .bool false, .int .i64 0, .int .u64 0, .slice a2 0 c2, .int .i64 0, .int .i64 0, .slice a3 0 c3, .bool false, .int .i64 f.S, .int .i64 f.T, .int .i64 f.K, .slice a4 f.L.length c4, .bool f.s, .int .i64 0, .int .i64 0, .int .i64 0, .slice a5 0 c5, .bool false]) rfl rfl rfl R4.out rfl (by kernel_rfl) ?_)
    | (refine ldQr (B := #[.int .i64 5, .string ByteArray.empty, .int .i64 c, .int .i64 0, .int .i64 0]) rfl rfl rfl Q4.out rfl rfl ?_)
    | (go_at_call 35; (with_reducible refine (HA.out _ B4.out).mono ?_); rintro e w5 ⟨aa, cc, rfl, ho5, hb5⟩; have R5 := Lib.hid (R4.out.go hb5); have Z5 := Lib.hid (Z4.out.go hb5); have B5 := Lib.hid (bgo B4.out hb5); have O5 := Lib.hid ho5; have Z4' := Lib.hid Z4.out.lt; clear ho5 hb5 R4 Q4 Z4 B4)
    | (refine stAn rfl rfl rfl (RowAt.new w5 _ _) rfl rfl rfl rfl ?_; intro w6 r6 o6; have S6 := Lib.hid r6; have D6 := Lib.hid (Below.trans (b1 _) (o6.1 : Below w5.heap.size _ w6)); have R6 := Lib.hid (R5.out.go D6.out); have Z6 := Lib.hid (Z5.out.go D6.out); have B6 := Lib.hid (bgo B5.out D6.out); have L6 : Hid (w.heap.size + 1 + 1 < w5.heap.size) := Lib.hid Z5.out.lt; have G4 := Lib.hid Z4'.out; clear r6 o6 R5 B5 Z5)
    | (refine ldSk (B := #[.int .i64 5, .int .i64 f.S, .int .i64 0, .int .u64 0, .int .i64 0, .int .i64 0, .bool false, .int .i64 0, .int .i64 0, .int .u64 0, .slice a1 0 c1, .bool false, .int .i64 0, .int .u64 0, .slice a2 0 c2, .int .i64 0, .int .i64 0, .slice a3 0 c3, .bool false, .int .i64 f.S, .int .i64 f.T, .int .i64 f.K, .slice a4 f.L.length c4, .bool f.s, .int .i64 0, .int .i64 0, .int .i64 0, .slice a5 0 c5, .bool false]) rfl rfl rfl R6.out rfl (by kernel_rfl) ?_)
    | (go_at_call 36; (with_reducible refine (HS.out _).mono ?_); rintro e w7 ⟨rfl, hb7⟩; have S7 := Lib.hid (S6.out.go hb7); have Z7 := Lib.hid (Z6.out.go hb7); have B7 := Lib.hid (bgo B6.out hb7); have D7 := Lib.hid (D6.out.trans (hb7.mono D6.out.size)); clear hb7 R6 S6 Z6 B6)
    | (refine stcb (A' := #[.int .i64 0, .int .i64 0, .string ByteArray.empty, .slice none 0 0, .slice aa m cc, .bool f.s]) rfl rfl rfl S7.out rfl (show 5 < 6 by decide) rfl ?_; intro w8 r8 o8; have S8 := Lib.hid r8; have Z8 := Lib.hid (Z7.out.oth o8 (by have := L6.out; omega)); have B8 := Lib.hid (B7.out.trans (o8.1.mono (by have := L6.out; omega))); have D8 := Lib.hid (D7.out.trans o8.1); clear r8 o8 S7 Z7 B7)
    | (refine ldAn (B := #[.int .i64 0, .int .i64 0, .string ByteArray.empty, .slice none 0 0, .slice aa m cc, .bool f.s]) rfl rfl rfl S8.out rfl rfl ?_)
    | (refine stAn rfl rfl rfl Z8.out rfl rfl rfl rfl ?_; intro w9 r9 o9; have Z9 := Lib.hid r9; have B9 := Lib.hid (B8.out.trans (o9.1.mono (by omega))); have P9 := Lib.hid (O5.out w9 ((Abv.below D8.out).trans (Abv.oth o9 (by have := G4.out; omega)))); clear r9 o9))
  exact ret_row2 Tryz.results15 rfl rfl rfl Z9.out Tryz.underlying51 rfl infAn ⟨aa, cc, rfl, P9.out, B9.out⟩
end Go.Proofs.YtjibbnknliamkaaGreatDoor
