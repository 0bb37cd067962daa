/- The walk of the law TallyUnion. -/
import Derived.Test.YtjpinnoolnhphaaMade6
import Derived.Test.YtjpinnoolnhphaaMerT
import Derived.Test.YtjpinnoolnhphaaArgs
import Derived.BigRegion
namespace Go.Proofs.Ytjpinnoolnhphaa
open Go.RowKit
set_option linter.unusedVariables false
set_option linter.unusedSimpArgs false
/-- The counts of a tally of the sum S. -/
def tT (S : Int) : Int := min S 4294967295
def tF (S : Int) : Bool := decide (4294967295 < S)
theorem st_val {S : Int} {k : Nat} (h : (k : Int) ≤ S) (hk : k ≤ 1000) : valT (tT S) k = 0 := val_mk (by omega) (by unfold tT; omega) (by unfold tT; omega)
theorem ins_st {S x : Int} {k : Nat} (h : (k : Int) ≤ S) (hk : k ≤ 1000) (hx : 1 ≤ x) : insT (tT S) k (tF S) 0 x = (tT (S + x), ((k + 1 : Nat) : Int), tF (S + x), 0) := by
  rw [ins_eq (st_val h hk) hx]
  unfold tT tF
  refine Prod.ext (by dsimp only; omega) (Prod.ext (by dsimp only; omega) (Prod.ext ?_ rfl))
  dsimp only
  rw [Bool.eq_iff_iff]
  simp only [Bool.or_eq_true, decide_eq_true_eq]
  omega
theorem mer_st {S R : Int} {k j : Nat} (h : (k : Int) ≤ S) (hk : k ≤ 1000) (h' : (j : Int) ≤ R) (hj : j ≤ 1000) : merT (tT S) k (tF S) (tT R) j (tF R) = (tT (S + R), ((k + j : Nat) : Int), tF (S + R), 0) := by
  rw [mer_eq (st_val h hk) (st_val h' hj)]
  unfold tT tF
  refine Prod.ext (by dsimp only; omega) (Prod.ext (by dsimp only; omega) (Prod.ext ?_ rfl))
  dsimp only
  rw [Bool.eq_iff_iff]
  simp only [Bool.or_eq_true, decide_eq_true_eq]
  omega
theorem tT_bd {S : Int} (h : 0 ≤ S) : -9223372036854775808 ≤ tT S ∧ tT S ≤ 9223372036854775807 := by unfold tT; omega
/-- An insertion, at the state of a sum. -/
theorem k_ins (S : Int) (k : Nat) (n : Int) (h : (k : Int) ≤ S) (hk : k ≤ 1000) (w : World) :
    Calls Try.prog 10 #[.agg #[.int .i64 (tT S), .int .i64 k, .bool (tF S)], .agg #[.string (keyS n), .int .i64 (wtS n)]] w fun e w' =>
      e = .returned (.tuple #[.agg #[.int .i64 (tT (S + wtS n)), .int .i64 ((k : Int) + 1), .bool (tF (S + wtS n))], .int .i64 0]) ∧ Below w.heap.size w w' := by
  have hw := wtS_bd n
  have hk' := keyS_bd n
  obtain ⟨b0, b1⟩ := tT_bd (S := S) (by omega)
  have := tins_any (tT S) k (wtS n) (tF S) (keyS n) w b0 b1 (by omega) (by omega) (by omega) (by omega) (by unfold maxLen; omega)
  rw [itemS, ins_st h hk hw.1] at this
  have e : ((k + 1 : Nat) : Int) = (k : Int) + 1 := by omega
  rw [e] at this
  exact this
theorem k_mer (S R Q : Int) (k j m : Nat) (h : (k : Int) ≤ S) (hk : k ≤ 1000) (h' : (j : Int) ≤ R) (hj : j ≤ 1000) (hQ : S + R = Q) (hm : k + j = m) (w : World) :
    Calls Try.prog 15 #[.agg #[.int .i64 (tT S), .int .i64 k, .bool (tF S)], .agg #[.int .i64 (tT R), .int .i64 j, .bool (tF R)]] w fun e w' =>
      e = .returned (.tuple #[.agg #[.int .i64 (tT Q), .int .i64 m, .bool (tF Q)], .int .i64 0]) ∧ Below w.heap.size w w' := by
  subst hQ hm
  obtain ⟨b0, b1⟩ := tT_bd (S := S) (by omega)
  obtain ⟨c0, c1⟩ := tT_bd (S := R) (by omega)
  have := tmer_any (tT S) k (tT R) j (tF S) (tF R) w b0 b1 (by omega) (by omega) c0 c1 (by omega) (by omega)
  rw [mer_st h hk h' hj] at this
  exact this
/-- A tally in memory. -/
def TSt (b : Nat) (S : Int) (k : Nat) (w : World) : Prop :=
  (w.cell? ⟨b, 0, none⟩ = some (.int .i64 (tT S)) ∧ w.cell? ⟨b, 1, none⟩ = some (.int .i64 k) ∧ w.cell? ⟨b, 2, none⟩ = some (.bool (tF S))) ∧
    w.frozen? ⟨b, 0, none⟩ = false ∧ w.frozen? ⟨b, 1, none⟩ = false ∧ w.frozen? ⟨b, 2, none⟩ = false
theorem TSt.below {b : Nat} {S : Int} {k : Nat} {w w' : World} (h : TSt b S k w) (hb : Below w.heap.size w w') (hl : b < w.heap.size) : TSt b S k w' := by
  obtain ⟨⟨h0, h1, h2⟩, h3, h4, h5⟩ := h
  obtain ⟨hc, hf⟩ := bcell hb
  exact ⟨⟨(hc _ _ hl).trans h0, (hc _ _ hl).trans h1, (hc _ _ hl).trans h2⟩, (hf _ _ hl).trans h3, (hf _ _ hl).trans h4, (hf _ _ hl).trans h5⟩
/-- Two tallies are overwritten, a third one stays. -/
theorem two_put (X : World) (p q r : Nat) (hpq : ¬ p = q) (hpr : ¬ p = r) (hqr : ¬ q = r) {S S2 S3 : Int} {k k2 k3 : Nat} (h1 : TSt p S k X) (h2 : TSt q S2 k2 X) (h3 : TSt r S3 k3 X) (R R2 : Int) (n n2 : Nat) (N N2 : Int) (hN : (n : Int) = N) (hN2 : (n2 : Int) = N2) :
    TSt p R n ((((((X.setCell ⟨p, 0, none⟩ (.int .i64 (tT R))).setCell ⟨p, 1, none⟩ (.int .i64 N)).setCell ⟨p, 2, none⟩ (.bool (tF R))).setCell ⟨q, 0, none⟩ (.int .i64 (tT R2))).setCell ⟨q, 1, none⟩ (.int .i64 N2)).setCell ⟨q, 2, none⟩ (.bool (tF R2))).drew ∧
    TSt q R2 n2 ((((((X.setCell ⟨p, 0, none⟩ (.int .i64 (tT R))).setCell ⟨p, 1, none⟩ (.int .i64 N)).setCell ⟨p, 2, none⟩ (.bool (tF R))).setCell ⟨q, 0, none⟩ (.int .i64 (tT R2))).setCell ⟨q, 1, none⟩ (.int .i64 N2)).setCell ⟨q, 2, none⟩ (.bool (tF R2))).drew ∧
    TSt r S3 k3 ((((((X.setCell ⟨p, 0, none⟩ (.int .i64 (tT R))).setCell ⟨p, 1, none⟩ (.int .i64 N)).setCell ⟨p, 2, none⟩ (.bool (tF R))).setCell ⟨q, 0, none⟩ (.int .i64 (tT R2))).setCell ⟨q, 1, none⟩ (.int .i64 N2)).setCell ⟨q, 2, none⟩ (.bool (tF R2))).drew := by
  subst hN hN2
  obtain ⟨⟨a0, a1, a2⟩, a3, a4, a5⟩ := h1
  obtain ⟨⟨b0, b1, b2⟩, b3, b4, b5⟩ := h2
  obtain ⟨⟨c0, c1, c2⟩, c3, c4, c5⟩ := h3
  have hqp : ¬ q = p := fun h => hpq h.symm
  have hrp : ¬ r = p := fun h => hpr h.symm
  have hrq : ¬ r = q := fun h => hqr h.symm
  refine ⟨⟨⟨?_, ?_, ?_⟩, ?_, ?_, ?_⟩, ⟨⟨?_, ?_, ?_⟩, ?_, ?_, ?_⟩, ⟨⟨?_, ?_, ?_⟩, ?_, ?_, ?_⟩⟩
  all_goals go_simp
theorem two_below {X : World} {B : Nat} {a : World} (h : Below B a X) (p q : Nat) (hp : B ≤ p) (hq : B ≤ q) (v0 v1 v2 v3 v4 v5 : Value) :
    Below B a ((((((X.setCell ⟨p, 0, none⟩ v0).setCell ⟨p, 1, none⟩ v1).setCell ⟨p, 2, none⟩ v2).setCell ⟨q, 0, none⟩ v3).setCell ⟨q, 1, none⟩ v4).setCell ⟨q, 2, none⟩ v5).drew := by
  have e : ∀ {w : World}, Below B a w → Below B a w.drew := fun h => ⟨h.os, h.tape, h.output, h.size, h.block⟩
  exact e ((((((h.setCell (p := ⟨p, 0, none⟩) hp _).setCell (p := ⟨p, 1, none⟩) hp _).setCell (p := ⟨p, 2, none⟩) hp _).setCell (p := ⟨q, 0, none⟩) hq _).setCell (p := ⟨q, 1, none⟩) hq _).setCell (p := ⟨q, 2, none⟩) hq _)
theorem inRow_bd {w : World} {a : Option Addr} {len cap : Nat} {z : List Int} (h : InRow .i64 w a len cap z) (k : Nat) (hk : k < len) : -9223372036854775808 ≤ z.getD k 0 ∧ z.getD k 0 ≤ 9223372036854775807 := by
  obtain ⟨i1, i2, i3, i4, i5⟩ := h
  have hl : k < z.length := by omega
  have := i4 z[k] (List.getElem_mem hl)
  have e : z.getD k 0 = z[k] := by simp only [List.getD, List.getElem?_eq_getElem hl, Option.getD_some]
  rw [e]
  exact wf_bd this
set_option maxRecDepth 100000 in
set_option maxHeartbeats 8000000 in
theorem tallyUnion_walk (a : Option Addr) (n cap : Nat) (z : List Int) (c : Option Addr) (m cap' : Nat) (y : List Int) (W : World) (w0 : InRow .i64 W a n cap z) (w1 : InRow .i64 W c m cap' y) :
    Calls Try.prog 6 #[.slice a n cap, .slice c m cap'] W fun e w' => e = .returned (.bool true) ∧ Below W.heap.size W w' := by
  have HI := Lib.hid w0
  have HJ := Lib.hid w1
  have gn : n ≤ 9223372036854775807 := by have := w0.1; have := w0.2.1; unfold maxLen at this; omega
  have gm : m ≤ 9223372036854775807 := by have := w1.1; have := w1.2.1; unfold maxLen at this; omega
  clear w0 w1
  have e0 : tT 0 = 0 := by decide
  have e1 : tF 0 = false := by decide
  have E := Lib.hid (And.intro e0 e1)
  clear e0 e1
  go_enter Try.func6, Try.ntmps6
  go_wp2_with fail
  go_at_call 21
  refine (tnew_any _).mono ?_
  rintro e w2 ⟨rfl, B2⟩
  go_wp2_with fail
  go_at_call 21
  refine (tnew_any _).mono ?_
  rintro e w3 ⟨rfl, b3⟩
  have B3 := bgo B2 b3
  clear B2 b3
  go_wp2_with fail
  go_at_call 21
  refine (tnew_any _).mono ?_
  rintro e w4 ⟨rfl, b4⟩
  have B4 := Lib.hid (bgo B3 b4)
  clear B3 b4
  have HG := Lib.hid B4.out.size
  go_wp2
  go_loopw [8, 9] (fun ok i wr => ∃ (k : Nat) (S : Int), k ≤ n ∧ k ≤ 6 ∧ (k : Int) ≤ S ∧ ok = .bool true ∧ i = .int .i64 k ∧ w4.heap.size + 2 < wr.heap.size ∧ Hid (Below W.heap.size W wr) ∧ Hid (TSt w4.heap.size S k wr) ∧ Hid (TSt (w4.heap.size + 1) 0 0 wr) ∧ Hid (TSt (w4.heap.size + 1 + 1) S k wr)) (fun _ i _ => n - (intOf i).toNat)
  case atStart =>
    refine ⟨0, 0, by omega, by omega, by omega, rfl, rfl, by simp <;> omega, bal (bal (bal B4.out _) _) _, ?_, ?_, ?_⟩
    all_goals
      show TSt _ _ _ _
      unfold TSt
      rw [E.out.1, E.out.2]
      exact ⟨⟨by go_simp, by go_simp, by go_simp⟩, by go_simp, by go_simp, by go_simp⟩
  case round =>
    obtain ⟨k, S, hk, hk6, hS, rfl, rfl, hz, HB, HX, HY, HA⟩ := hrel
    by_cases hlt : k < n
    · by_cases h6 : k < 6
      · obtain ⟨b, off, rfl, hb, hc⟩ := HI.out.at_ (by omega) HB.out
        have hd := hc k hlt
        have hbd := inRow_bd HI.out k hlt
        have hm := mask16 (z.getD k 0)
        have q0 : 0 ≤ z.getD k 0 % 65536 := by omega
        have q1 : z.getD k 0 % 65536 ≤ 65535 := by omega
        have h1 := fun w => bitem_any (z.getD k 0 % 65536) w (by omega) (by omega)
        have h2 := fun w => k_ins S k (z.getD k 0 % 65536) (by omega) (by omega) w
        have h3 := fun w => k_ins S k (z.getD k 0 % 65536) (by omega) (by omega) w
        have hw := wtS_bd (z.getD k 0 % 65536)
        clear hc
        generalize z.getD k 0 % 65536 = p at *
        generalize z.getD k 0 = q at *
        generalize keyS p = K at *
        obtain ⟨R1, hR⟩ : ∃ R1, S + wtS p = R1 := ⟨_, rfl⟩
        obtain ⟨R2, hR2⟩ : ∃ R2, S + wtS p = R2 := ⟨_, rfl⟩
        have hR1 : ((k + 1 : Nat) : Int) ≤ R1 := by omega
        have hR9 : ((k + 1 : Nat) : Int) ≤ R2 := by omega
        have HRR := Lib.hid (show S + wtS p = R1 ∧ S + wtS p = R2 from ⟨hR, hR2⟩)
        rw [hR] at h2
        rw [hR2] at h3
        generalize wtS p = x at *
        clear hR hR2 hw
        obtain ⟨⟨x0, x1, x2⟩, x3, x4, x5⟩ := HX.out
        obtain ⟨⟨a0, a1, a2⟩, a3, a4, a5⟩ := HA.out
        obtain ⟨gx, gy, gv⟩ := room hz
        have HZ := Lib.hid hz
        clear hz
        go_wp2_with fail
        go_at_call 9
        refine (h1 _).mono ?_
        rintro e w5 ⟨rfl, hb5⟩
        have B5 := Lib.hid hb5
        obtain ⟨hc5, hf5⟩ := bcell hb5
        obtain ⟨hx5, hy5, hv5⟩ := room (n := w4.heap.size) (m := w5.heap.size) (by have := HZ.out; have := hb5.size; omega)
        clear hb5 h1
        go_wp2_with fail
        go_at_call 10
        refine (h2 _).mono ?_
        rintro e w6 ⟨rfl, hb6⟩
        have B6 := Lib.hid (bgo (bal B5.out _) hb6)
        obtain ⟨hc6, hf6⟩ := bcell hb6
        have hk6 : w5.heap.size < w6.heap.size := by have := hb6.size; simp at this; omega
        obtain ⟨hx6, hy6, hv6⟩ := room (n := w4.heap.size) (m := w6.heap.size) (by omega)
        clear hb6
        go_wp2_with fail
        go_at_call 10
        refine (h3 _).mono ?_
        rintro e w7 ⟨rfl, hb7⟩
        have B7 := bal (bgo (bal B6.out _) hb7) (Obj.cells #[Value.int IntKind.i64 (tT R2), Value.int IntKind.i64 ((k : Int) + 1), Value.bool (tF R2)] 23)
        obtain ⟨hc7, hf7⟩ := bcell hb7
        have hk7 : w6.heap.size < w7.heap.size := by have := hb7.size; simp at this; omega
        obtain ⟨hx7, hy7, hv7⟩ := room (n := w4.heap.size) (m := w7.heap.size) (by omega)
        clear hb7
        go_wp2
        have r0 : (w7.alloc (Obj.cells #[Value.int IntKind.i64 (tT R2), Value.int IntKind.i64 ((k : Int) + 1), Value.bool (tF R2)] 23)).cell? ⟨w6.heap.size, 0, none⟩ = some (.int .i64 (tT R1)) := by go_simp
        have r1 : (w7.alloc (Obj.cells #[Value.int IntKind.i64 (tT R2), Value.int IntKind.i64 ((k : Int) + 1), Value.bool (tF R2)] 23)).cell? ⟨w6.heap.size, 1, none⟩ = some (.int .i64 ((k : Int) + 1)) := by go_simp
        have r2 : (w7.alloc (Obj.cells #[Value.int IntKind.i64 (tT R2), Value.int IntKind.i64 ((k : Int) + 1), Value.bool (tF R2)] 23)).cell? ⟨w6.heap.size, 2, none⟩ = some (.bool (tF R1)) := by go_simp
        have s0 : (w7.alloc (Obj.cells #[Value.int IntKind.i64 (tT R2), Value.int IntKind.i64 ((k : Int) + 1), Value.bool (tF R2)] 23)).cell? ⟨w7.heap.size, 0, none⟩ = some (.int .i64 (tT R2)) := by go_simp
        have s1 : (w7.alloc (Obj.cells #[Value.int IntKind.i64 (tT R2), Value.int IntKind.i64 ((k : Int) + 1), Value.bool (tF R2)] 23)).cell? ⟨w7.heap.size, 1, none⟩ = some (.int .i64 ((k : Int) + 1)) := by go_simp
        have s2 : (w7.alloc (Obj.cells #[Value.int IntKind.i64 (tT R2), Value.int IntKind.i64 ((k : Int) + 1), Value.bool (tF R2)] 23)).cell? ⟨w7.heap.size, 2, none⟩ = some (.bool (tF R2)) := by go_simp
        have HPX := Lib.hid (TSt.below HX.out B7 (by have := HZ.out; omega))
        have HQX := Lib.hid (TSt.below HA.out B7 (by have := HZ.out; omega))
        have HRX := Lib.hid (TSt.below HY.out B7 (by have := HZ.out; omega))
        have ne1 : ¬ w6.heap.size = w4.heap.size := by omega
        have nf1 : ¬ w4.heap.size = w6.heap.size := by omega
        have ne2 : ¬ w6.heap.size = (w4.heap.size + 1 + 1) := by omega
        have nf2 : ¬ (w4.heap.size + 1 + 1) = w6.heap.size := by omega
        have ne3 : ¬ w7.heap.size = w4.heap.size := by omega
        have nf3 : ¬ w4.heap.size = w7.heap.size := by omega
        have ne4 : ¬ w7.heap.size = (w4.heap.size + 1 + 1) := by omega
        have nf4 : ¬ (w4.heap.size + 1 + 1) = w7.heap.size := by omega
        have SX := Lib.hid (show w4.heap.size + 2 < (w7.alloc (Obj.cells #[Value.int IntKind.i64 (tT R2), Value.int IntKind.i64 ((k : Int) + 1), Value.bool (tF R2)] 23)).heap.size by simp; omega)
        have BX := Lib.hid (bgo HB.out B7)
        clear B7
        generalize (w7.alloc (Obj.cells #[Value.int IntKind.i64 (tT R2), Value.int IntKind.i64 ((k : Int) + 1), Value.bool (tF R2)] 23)) = X at *
        obtain ⟨⟨cx0, cx1, cx2⟩, fx0, fx1, fx2⟩ := HPX.out
        obtain ⟨⟨ca0, ca1, ca2⟩, fa0, fa1, fa2⟩ := HQX.out
        clear hc5 hf5 hc6 hf6 hc7 hf7 hx5 hy5 hv5 hx6 hy6 hv6 hx7 hy7 hv7 h2 h3 x0 x1 x2 x3 x4 x5 a0 a1 a2 a3 a4 a5 hd
        have HT := Lib.hid (two_put X w4.heap.size (w4.heap.size + 1 + 1) (w4.heap.size + 1) (by omega) (by omega) (by omega) HPX.out HQX.out HRX.out R1 R2 (k + 1) (k + 1) ((k : Int) + 1) ((k : Int) + 1) (by omega) (by omega))
        have HW := Lib.hid (two_below BX.out w4.heap.size (w4.heap.size + 1 + 1) (by have := HG.out; omega) (by have := HG.out; omega) (.int .i64 (tT R1)) (.int .i64 ((k : Int) + 1)) (.bool (tF R1)) (.int .i64 (tT R2)) (.int .i64 ((k : Int) + 1)) (.bool (tF R2)))
        go_big_region
        go_wp2
        go_roundw
        case rel => exact ⟨k + 1, R1, by omega, by omega, hR1, rfl, by go_num, by have := SX.out; simp; omega, HW.out, HT.out.1, HT.out.2.2, by have h := HT.out.2.1; rw [show R2 = R1 by have := HRR.out; omega] at h ⊢; exact h⟩
        case measure => simp [intOf]; omega
      · go_wp2
        go_loopw [8, 15] (fun ok i wr => ∃ (j : Nat) (R : Int) (g : Nat) (Q : Int), j ≤ m ∧ j ≤ 6 ∧ (j : Int) ≤ R ∧ g ≤ 12 ∧ (g : Int) ≤ Q ∧ Hid (k + j = g ∧ S + R = Q) ∧ ok = .bool true ∧ i = .int .i64 j ∧ w4.heap.size + 2 < wr.heap.size ∧ Hid (Below W.heap.size W wr) ∧ Hid (TSt w4.heap.size S k wr) ∧ Hid (TSt (w4.heap.size + 1) R j wr) ∧ Hid (TSt (w4.heap.size + 1 + 1) Q g wr)) (fun _ i _ => m - (intOf i).toNat)
        case atStart => exact ⟨0, 0, k, S, by omega, by omega, by omega, by omega, hS, Lib.hid ⟨by omega, by omega⟩, rfl, rfl, hz, HB, HX, HY, HA⟩
        case round =>
          clear HB HX HY HA hz
          obtain ⟨j, R, g, Q, hj, hj6, hR, hg, hQ, HE, rfl, rfl, hz, HB, HX, HY, HA⟩ := hrel
          by_cases hlt : j < m
          · by_cases h6 : j < 6
            · have hg12 : g ≤ 1000 := by omega
              obtain ⟨b, off, rfl, hb, hc⟩ := HJ.out.at_ (by omega) HB.out
              have hd := hc j hlt
              have hbd := inRow_bd HJ.out j hlt
              have hm := mask16 (y.getD j 0)
              have q0 : 0 ≤ y.getD j 0 % 65536 := by omega
              have q1 : y.getD j 0 % 65536 ≤ 65535 := by omega
              have h1 := fun w => bitem_any (y.getD j 0 % 65536) w (by omega) (by omega)
              have h2 := fun w => k_ins R j (y.getD j 0 % 65536) (by omega) (by omega) w
              have h3 := fun w => k_ins Q g (y.getD j 0 % 65536) (by omega) (by omega) w
              have hw := wtS_bd (y.getD j 0 % 65536)
              clear hc
              generalize y.getD j 0 % 65536 = p at *
              generalize y.getD j 0 = q at *
              generalize keyS p = K at *
              obtain ⟨R1, hR⟩ : ∃ R1, R + wtS p = R1 := ⟨_, rfl⟩
              obtain ⟨R2, hR2⟩ : ∃ R2, Q + wtS p = R2 := ⟨_, rfl⟩
              have hR1 : ((j + 1 : Nat) : Int) ≤ R1 := by omega
              have hR9 : ((g + 1 : Nat) : Int) ≤ R2 := by omega
              have HRR := Lib.hid (show R + wtS p = R1 ∧ Q + wtS p = R2 from ⟨hR, hR2⟩)
              rw [hR] at h2
              rw [hR2] at h3
              generalize wtS p = x at *
              clear hR hR2 hw
              obtain ⟨⟨x0, x1, x2⟩, x3, x4, x5⟩ := HY.out
              obtain ⟨⟨a0, a1, a2⟩, a3, a4, a5⟩ := HA.out
              obtain ⟨gx, gy, gv⟩ := room hz
              have HZ := Lib.hid hz
              clear hz
              go_wp2_with fail
              go_at_call 9
              refine (h1 _).mono ?_
              rintro e w5 ⟨rfl, hb5⟩
              have B5 := Lib.hid hb5
              obtain ⟨hc5, hf5⟩ := bcell hb5
              obtain ⟨hx5, hy5, hv5⟩ := room (n := w4.heap.size) (m := w5.heap.size) (by have := HZ.out; have := hb5.size; omega)
              clear hb5 h1
              go_wp2_with fail
              go_at_call 10
              refine (h2 _).mono ?_
              rintro e w6 ⟨rfl, hb6⟩
              have B6 := Lib.hid (bgo (bal B5.out _) hb6)
              obtain ⟨hc6, hf6⟩ := bcell hb6
              have hk6 : w5.heap.size < w6.heap.size := by have := hb6.size; simp at this; omega
              obtain ⟨hx6, hy6, hv6⟩ := room (n := w4.heap.size) (m := w6.heap.size) (by omega)
              clear hb6
              go_wp2_with fail
              go_at_call 10
              refine (h3 _).mono ?_
              rintro e w7 ⟨rfl, hb7⟩
              have B7 := bal (bgo (bal B6.out _) hb7) (Obj.cells #[Value.int IntKind.i64 (tT R2), Value.int IntKind.i64 ((g : Int) + 1), Value.bool (tF R2)] 23)
              obtain ⟨hc7, hf7⟩ := bcell hb7
              have hk7 : w6.heap.size < w7.heap.size := by have := hb7.size; simp at this; omega
              obtain ⟨hx7, hy7, hv7⟩ := room (n := w4.heap.size) (m := w7.heap.size) (by omega)
              clear hb7
              go_wp2
              have r0 : (w7.alloc (Obj.cells #[Value.int IntKind.i64 (tT R2), Value.int IntKind.i64 ((g : Int) + 1), Value.bool (tF R2)] 23)).cell? ⟨w6.heap.size, 0, none⟩ = some (.int .i64 (tT R1)) := by go_simp
              have r1 : (w7.alloc (Obj.cells #[Value.int IntKind.i64 (tT R2), Value.int IntKind.i64 ((g : Int) + 1), Value.bool (tF R2)] 23)).cell? ⟨w6.heap.size, 1, none⟩ = some (.int .i64 ((j : Int) + 1)) := by go_simp
              have r2 : (w7.alloc (Obj.cells #[Value.int IntKind.i64 (tT R2), Value.int IntKind.i64 ((g : Int) + 1), Value.bool (tF R2)] 23)).cell? ⟨w6.heap.size, 2, none⟩ = some (.bool (tF R1)) := by go_simp
              have s0 : (w7.alloc (Obj.cells #[Value.int IntKind.i64 (tT R2), Value.int IntKind.i64 ((g : Int) + 1), Value.bool (tF R2)] 23)).cell? ⟨w7.heap.size, 0, none⟩ = some (.int .i64 (tT R2)) := by go_simp
              have s1 : (w7.alloc (Obj.cells #[Value.int IntKind.i64 (tT R2), Value.int IntKind.i64 ((g : Int) + 1), Value.bool (tF R2)] 23)).cell? ⟨w7.heap.size, 1, none⟩ = some (.int .i64 ((g : Int) + 1)) := by go_simp
              have s2 : (w7.alloc (Obj.cells #[Value.int IntKind.i64 (tT R2), Value.int IntKind.i64 ((g : Int) + 1), Value.bool (tF R2)] 23)).cell? ⟨w7.heap.size, 2, none⟩ = some (.bool (tF R2)) := by go_simp
              have HPX := Lib.hid (TSt.below HY.out B7 (by have := HZ.out; omega))
              have HQX := Lib.hid (TSt.below HA.out B7 (by have := HZ.out; omega))
              have HRX := Lib.hid (TSt.below HX.out B7 (by have := HZ.out; omega))
              have ne1 : ¬ w6.heap.size = (w4.heap.size + 1) := by omega
              have nf1 : ¬ (w4.heap.size + 1) = w6.heap.size := by omega
              have ne2 : ¬ w6.heap.size = (w4.heap.size + 1 + 1) := by omega
              have nf2 : ¬ (w4.heap.size + 1 + 1) = w6.heap.size := by omega
              have ne3 : ¬ w7.heap.size = (w4.heap.size + 1) := by omega
              have nf3 : ¬ (w4.heap.size + 1) = w7.heap.size := by omega
              have ne4 : ¬ w7.heap.size = (w4.heap.size + 1 + 1) := by omega
              have nf4 : ¬ (w4.heap.size + 1 + 1) = w7.heap.size := by omega
              have SX := Lib.hid (show w4.heap.size + 2 < (w7.alloc (Obj.cells #[Value.int IntKind.i64 (tT R2), Value.int IntKind.i64 ((g : Int) + 1), Value.bool (tF R2)] 23)).heap.size by simp; omega)
              have BX := Lib.hid (bgo HB.out B7)
              clear B7
              generalize (w7.alloc (Obj.cells #[Value.int IntKind.i64 (tT R2), Value.int IntKind.i64 ((g : Int) + 1), Value.bool (tF R2)] 23)) = X at *
              obtain ⟨⟨cx0, cx1, cx2⟩, fx0, fx1, fx2⟩ := HPX.out
              obtain ⟨⟨ca0, ca1, ca2⟩, fa0, fa1, fa2⟩ := HQX.out
              clear hc5 hf5 hc6 hf6 hc7 hf7 hx5 hy5 hv5 hx6 hy6 hv6 hx7 hy7 hv7 h2 h3 x0 x1 x2 x3 x4 x5 a0 a1 a2 a3 a4 a5 hd
              have HT := Lib.hid (two_put X (w4.heap.size + 1) (w4.heap.size + 1 + 1) w4.heap.size (by omega) (by omega) (by omega) HPX.out HQX.out HRX.out R1 R2 (j + 1) (g + 1) ((j : Int) + 1) ((g : Int) + 1) (by omega) (by omega))
              have HW := Lib.hid (two_below BX.out (w4.heap.size + 1) (w4.heap.size + 1 + 1) (by have := HG.out; omega) (by have := HG.out; omega) (.int .i64 (tT R1)) (.int .i64 ((j : Int) + 1)) (.bool (tF R1)) (.int .i64 (tT R2)) (.int .i64 ((g : Int) + 1)) (.bool (tF R2)))
              go_big_region
              go_wp2
              go_roundw
              case rel => exact ⟨j + 1, R1, g + 1, R2, by omega, by omega, hR1, by have := HE.out; omega, hR9, Lib.hid (by have := HRR.out; have := HE.out; omega), rfl, by go_num, by have := SX.out; simp; omega, HW.out, HT.out.2.2, HT.out.1, HT.out.2.1⟩
              case measure => simp [intOf]; omega
            · have h1 := fun w => k_mer S R Q k j g hS (by omega) hR (by omega) HE.out.2 HE.out.1 w
              have h2 := fun w => k_mer R S Q j k g hR (by omega) hS (by omega) (by obtain ⟨u, v⟩ := HE.out; clear h1; omega) (by obtain ⟨u, v⟩ := HE.out; clear h1; omega) w
              obtain ⟨⟨x0, x1, x2⟩, x3, x4, x5⟩ := HX.out
              obtain ⟨⟨y0, y1, y2⟩, y3, y4, y5⟩ := HY.out
              obtain ⟨⟨a0, a1, a2⟩, a3, a4, a5⟩ := HA.out
              obtain ⟨gx, gy, gv⟩ := room hz
              have HZ := Lib.hid hz
              clear hz x3 x4 x5 y3 y4 y5 a3 a4 a5
              go_wp2_with fail
              go_at_call 15
              refine (h1 _).mono ?_
              rintro e w5 ⟨rfl, hb5⟩
              have B5 := Lib.hid (bgo HB.out hb5)
              obtain ⟨hc5, hf5⟩ := bcell hb5
              obtain ⟨hx5, hy5, hv5⟩ := room (n := w4.heap.size) (m := w5.heap.size) (by have := HZ.out; have := hb5.size; omega)
              clear hb5 h1
              go_wp2_with fail
              go_at_call 15
              refine (h2 _).mono ?_
              rintro e w6 ⟨rfl, hb6⟩
              have B6 := Lib.hid (bgo (bal B5.out _) hb6)
              obtain ⟨hc6, hf6⟩ := bcell hb6
              have hk6 : w5.heap.size < w6.heap.size := by have := hb6.size; simp at this; omega
              obtain ⟨hx6, hy6, hv6⟩ := room (n := w4.heap.size) (m := w6.heap.size) (by omega)
              clear hb6
              go_wp2_with (go_at_call 14; ((with_reducible refine (known_any _).mono ?_); rintro e w7 ⟨rfl, hb7⟩; have B7 := bgo (bal B6.out _) hb7; clear hb7))
              go_ret
              exact ⟨rfl, B7⟩
          · have h1 := fun w => k_mer S R Q k j g hS (by omega) hR (by omega) HE.out.2 HE.out.1 w
            have h2 := fun w => k_mer R S Q j k g hR (by omega) hS (by omega) (by obtain ⟨u, v⟩ := HE.out; clear h1; omega) (by obtain ⟨u, v⟩ := HE.out; clear h1; omega) w
            obtain ⟨⟨x0, x1, x2⟩, x3, x4, x5⟩ := HX.out
            obtain ⟨⟨y0, y1, y2⟩, y3, y4, y5⟩ := HY.out
            obtain ⟨⟨a0, a1, a2⟩, a3, a4, a5⟩ := HA.out
            obtain ⟨gx, gy, gv⟩ := room hz
            have HZ := Lib.hid hz
            clear hz x3 x4 x5 y3 y4 y5 a3 a4 a5
            go_wp2_with fail
            go_at_call 15
            refine (h1 _).mono ?_
            rintro e w5 ⟨rfl, hb5⟩
            have B5 := Lib.hid (bgo HB.out hb5)
            obtain ⟨hc5, hf5⟩ := bcell hb5
            obtain ⟨hx5, hy5, hv5⟩ := room (n := w4.heap.size) (m := w5.heap.size) (by have := HZ.out; have := hb5.size; omega)
            clear hb5 h1
            go_wp2_with fail
            go_at_call 15
            refine (h2 _).mono ?_
            rintro e w6 ⟨rfl, hb6⟩
            have B6 := Lib.hid (bgo (bal B5.out _) hb6)
            obtain ⟨hc6, hf6⟩ := bcell hb6
            have hk6 : w5.heap.size < w6.heap.size := by have := hb6.size; simp at this; omega
            obtain ⟨hx6, hy6, hv6⟩ := room (n := w4.heap.size) (m := w6.heap.size) (by omega)
            clear hb6
            go_wp2_with (go_at_call 14; ((with_reducible refine (known_any _).mono ?_); rintro e w7 ⟨rfl, hb7⟩; have B7 := bgo (bal B6.out _) hb7; clear hb7))
            go_ret
            exact ⟨rfl, B7⟩
    · go_wp2
      go_loopw [8, 15] (fun ok i wr => ∃ (j : Nat) (R : Int) (g : Nat) (Q : Int), j ≤ m ∧ j ≤ 6 ∧ (j : Int) ≤ R ∧ g ≤ 12 ∧ (g : Int) ≤ Q ∧ Hid (k + j = g ∧ S + R = Q) ∧ ok = .bool true ∧ i = .int .i64 j ∧ w4.heap.size + 2 < wr.heap.size ∧ Hid (Below W.heap.size W wr) ∧ Hid (TSt w4.heap.size S k wr) ∧ Hid (TSt (w4.heap.size + 1) R j wr) ∧ Hid (TSt (w4.heap.size + 1 + 1) Q g wr)) (fun _ i _ => m - (intOf i).toNat)
      case atStart => exact ⟨0, 0, k, S, by omega, by omega, by omega, by omega, hS, Lib.hid ⟨by omega, by omega⟩, rfl, rfl, hz, HB, HX, HY, HA⟩
      case round =>
        clear HB HX HY HA hz
        obtain ⟨j, R, g, Q, hj, hj6, hR, hg, hQ, HE, rfl, rfl, hz, HB, HX, HY, HA⟩ := hrel
        by_cases hlt : j < m
        · by_cases h6 : j < 6
          · have hg12 : g ≤ 1000 := by omega
            obtain ⟨b, off, rfl, hb, hc⟩ := HJ.out.at_ (by omega) HB.out
            have hd := hc j hlt
            have hbd := inRow_bd HJ.out j hlt
            have hm := mask16 (y.getD j 0)
            have q0 : 0 ≤ y.getD j 0 % 65536 := by omega
            have q1 : y.getD j 0 % 65536 ≤ 65535 := by omega
            have h1 := fun w => bitem_any (y.getD j 0 % 65536) w (by omega) (by omega)
            have h2 := fun w => k_ins R j (y.getD j 0 % 65536) (by omega) (by omega) w
            have h3 := fun w => k_ins Q g (y.getD j 0 % 65536) (by omega) (by omega) w
            have hw := wtS_bd (y.getD j 0 % 65536)
            clear hc
            generalize y.getD j 0 % 65536 = p at *
            generalize y.getD j 0 = q at *
            generalize keyS p = K at *
            obtain ⟨R1, hR⟩ : ∃ R1, R + wtS p = R1 := ⟨_, rfl⟩
            obtain ⟨R2, hR2⟩ : ∃ R2, Q + wtS p = R2 := ⟨_, rfl⟩
            have hR1 : ((j + 1 : Nat) : Int) ≤ R1 := by omega
            have hR9 : ((g + 1 : Nat) : Int) ≤ R2 := by omega
            have HRR := Lib.hid (show R + wtS p = R1 ∧ Q + wtS p = R2 from ⟨hR, hR2⟩)
            rw [hR] at h2
            rw [hR2] at h3
            generalize wtS p = x at *
            clear hR hR2 hw
            obtain ⟨⟨x0, x1, x2⟩, x3, x4, x5⟩ := HY.out
            obtain ⟨⟨a0, a1, a2⟩, a3, a4, a5⟩ := HA.out
            obtain ⟨gx, gy, gv⟩ := room hz
            have HZ := Lib.hid hz
            clear hz
            go_wp2_with fail
            go_at_call 9
            refine (h1 _).mono ?_
            rintro e w5 ⟨rfl, hb5⟩
            have B5 := Lib.hid hb5
            obtain ⟨hc5, hf5⟩ := bcell hb5
            obtain ⟨hx5, hy5, hv5⟩ := room (n := w4.heap.size) (m := w5.heap.size) (by have := HZ.out; have := hb5.size; omega)
            clear hb5 h1
            go_wp2_with fail
            go_at_call 10
            refine (h2 _).mono ?_
            rintro e w6 ⟨rfl, hb6⟩
            have B6 := Lib.hid (bgo (bal B5.out _) hb6)
            obtain ⟨hc6, hf6⟩ := bcell hb6
            have hk6 : w5.heap.size < w6.heap.size := by have := hb6.size; simp at this; omega
            obtain ⟨hx6, hy6, hv6⟩ := room (n := w4.heap.size) (m := w6.heap.size) (by omega)
            clear hb6
            go_wp2_with fail
            go_at_call 10
            refine (h3 _).mono ?_
            rintro e w7 ⟨rfl, hb7⟩
            have B7 := bal (bgo (bal B6.out _) hb7) (Obj.cells #[Value.int IntKind.i64 (tT R2), Value.int IntKind.i64 ((g : Int) + 1), Value.bool (tF R2)] 23)
            obtain ⟨hc7, hf7⟩ := bcell hb7
            have hk7 : w6.heap.size < w7.heap.size := by have := hb7.size; simp at this; omega
            obtain ⟨hx7, hy7, hv7⟩ := room (n := w4.heap.size) (m := w7.heap.size) (by omega)
            clear hb7
            go_wp2
            have r0 : (w7.alloc (Obj.cells #[Value.int IntKind.i64 (tT R2), Value.int IntKind.i64 ((g : Int) + 1), Value.bool (tF R2)] 23)).cell? ⟨w6.heap.size, 0, none⟩ = some (.int .i64 (tT R1)) := by go_simp
            have r1 : (w7.alloc (Obj.cells #[Value.int IntKind.i64 (tT R2), Value.int IntKind.i64 ((g : Int) + 1), Value.bool (tF R2)] 23)).cell? ⟨w6.heap.size, 1, none⟩ = some (.int .i64 ((j : Int) + 1)) := by go_simp
            have r2 : (w7.alloc (Obj.cells #[Value.int IntKind.i64 (tT R2), Value.int IntKind.i64 ((g : Int) + 1), Value.bool (tF R2)] 23)).cell? ⟨w6.heap.size, 2, none⟩ = some (.bool (tF R1)) := by go_simp
            have s0 : (w7.alloc (Obj.cells #[Value.int IntKind.i64 (tT R2), Value.int IntKind.i64 ((g : Int) + 1), Value.bool (tF R2)] 23)).cell? ⟨w7.heap.size, 0, none⟩ = some (.int .i64 (tT R2)) := by go_simp
            have s1 : (w7.alloc (Obj.cells #[Value.int IntKind.i64 (tT R2), Value.int IntKind.i64 ((g : Int) + 1), Value.bool (tF R2)] 23)).cell? ⟨w7.heap.size, 1, none⟩ = some (.int .i64 ((g : Int) + 1)) := by go_simp
            have s2 : (w7.alloc (Obj.cells #[Value.int IntKind.i64 (tT R2), Value.int IntKind.i64 ((g : Int) + 1), Value.bool (tF R2)] 23)).cell? ⟨w7.heap.size, 2, none⟩ = some (.bool (tF R2)) := by go_simp
            have HPX := Lib.hid (TSt.below HY.out B7 (by have := HZ.out; omega))
            have HQX := Lib.hid (TSt.below HA.out B7 (by have := HZ.out; omega))
            have HRX := Lib.hid (TSt.below HX.out B7 (by have := HZ.out; omega))
            have ne1 : ¬ w6.heap.size = (w4.heap.size + 1) := by omega
            have nf1 : ¬ (w4.heap.size + 1) = w6.heap.size := by omega
            have ne2 : ¬ w6.heap.size = (w4.heap.size + 1 + 1) := by omega
            have nf2 : ¬ (w4.heap.size + 1 + 1) = w6.heap.size := by omega
            have ne3 : ¬ w7.heap.size = (w4.heap.size + 1) := by omega
            have nf3 : ¬ (w4.heap.size + 1) = w7.heap.size := by omega
            have ne4 : ¬ w7.heap.size = (w4.heap.size + 1 + 1) := by omega
            have nf4 : ¬ (w4.heap.size + 1 + 1) = w7.heap.size := by omega
            have SX := Lib.hid (show w4.heap.size + 2 < (w7.alloc (Obj.cells #[Value.int IntKind.i64 (tT R2), Value.int IntKind.i64 ((g : Int) + 1), Value.bool (tF R2)] 23)).heap.size by simp; omega)
            have BX := Lib.hid (bgo HB.out B7)
            clear B7
            generalize (w7.alloc (Obj.cells #[Value.int IntKind.i64 (tT R2), Value.int IntKind.i64 ((g : Int) + 1), Value.bool (tF R2)] 23)) = X at *
            obtain ⟨⟨cx0, cx1, cx2⟩, fx0, fx1, fx2⟩ := HPX.out
            obtain ⟨⟨ca0, ca1, ca2⟩, fa0, fa1, fa2⟩ := HQX.out
            clear hc5 hf5 hc6 hf6 hc7 hf7 hx5 hy5 hv5 hx6 hy6 hv6 hx7 hy7 hv7 h2 h3 x0 x1 x2 x3 x4 x5 a0 a1 a2 a3 a4 a5 hd
            have HT := Lib.hid (two_put X (w4.heap.size + 1) (w4.heap.size + 1 + 1) w4.heap.size (by omega) (by omega) (by omega) HPX.out HQX.out HRX.out R1 R2 (j + 1) (g + 1) ((j : Int) + 1) ((g : Int) + 1) (by omega) (by omega))
            have HW := Lib.hid (two_below BX.out (w4.heap.size + 1) (w4.heap.size + 1 + 1) (by have := HG.out; omega) (by have := HG.out; omega) (.int .i64 (tT R1)) (.int .i64 ((j : Int) + 1)) (.bool (tF R1)) (.int .i64 (tT R2)) (.int .i64 ((g : Int) + 1)) (.bool (tF R2)))
            go_big_region
            go_wp2
            go_roundw
            case rel => exact ⟨j + 1, R1, g + 1, R2, by omega, by omega, hR1, by have := HE.out; omega, hR9, Lib.hid (by have := HRR.out; have := HE.out; omega), rfl, by go_num, by have := SX.out; simp; omega, HW.out, HT.out.2.2, HT.out.1, HT.out.2.1⟩
            case measure => simp [intOf]; omega
          · have h1 := fun w => k_mer S R Q k j g hS (by omega) hR (by omega) HE.out.2 HE.out.1 w
            have h2 := fun w => k_mer R S Q j k g hR (by omega) hS (by omega) (by obtain ⟨u, v⟩ := HE.out; clear h1; omega) (by obtain ⟨u, v⟩ := HE.out; clear h1; omega) w
            obtain ⟨⟨x0, x1, x2⟩, x3, x4, x5⟩ := HX.out
            obtain ⟨⟨y0, y1, y2⟩, y3, y4, y5⟩ := HY.out
            obtain ⟨⟨a0, a1, a2⟩, a3, a4, a5⟩ := HA.out
            obtain ⟨gx, gy, gv⟩ := room hz
            have HZ := Lib.hid hz
            clear hz x3 x4 x5 y3 y4 y5 a3 a4 a5
            go_wp2_with fail
            go_at_call 15
            refine (h1 _).mono ?_
            rintro e w5 ⟨rfl, hb5⟩
            have B5 := Lib.hid (bgo HB.out hb5)
            obtain ⟨hc5, hf5⟩ := bcell hb5
            obtain ⟨hx5, hy5, hv5⟩ := room (n := w4.heap.size) (m := w5.heap.size) (by have := HZ.out; have := hb5.size; omega)
            clear hb5 h1
            go_wp2_with fail
            go_at_call 15
            refine (h2 _).mono ?_
            rintro e w6 ⟨rfl, hb6⟩
            have B6 := Lib.hid (bgo (bal B5.out _) hb6)
            obtain ⟨hc6, hf6⟩ := bcell hb6
            have hk6 : w5.heap.size < w6.heap.size := by have := hb6.size; simp at this; omega
            obtain ⟨hx6, hy6, hv6⟩ := room (n := w4.heap.size) (m := w6.heap.size) (by omega)
            clear hb6
            go_wp2_with (go_at_call 14; ((with_reducible refine (known_any _).mono ?_); rintro e w7 ⟨rfl, hb7⟩; have B7 := bgo (bal B6.out _) hb7; clear hb7))
            go_ret
            exact ⟨rfl, B7⟩
        · have h1 := fun w => k_mer S R Q k j g hS (by omega) hR (by omega) HE.out.2 HE.out.1 w
          have h2 := fun w => k_mer R S Q j k g hR (by omega) hS (by omega) (by obtain ⟨u, v⟩ := HE.out; clear h1; omega) (by obtain ⟨u, v⟩ := HE.out; clear h1; omega) w
          obtain ⟨⟨x0, x1, x2⟩, x3, x4, x5⟩ := HX.out
          obtain ⟨⟨y0, y1, y2⟩, y3, y4, y5⟩ := HY.out
          obtain ⟨⟨a0, a1, a2⟩, a3, a4, a5⟩ := HA.out
          obtain ⟨gx, gy, gv⟩ := room hz
          have HZ := Lib.hid hz
          clear hz x3 x4 x5 y3 y4 y5 a3 a4 a5
          go_wp2_with fail
          go_at_call 15
          refine (h1 _).mono ?_
          rintro e w5 ⟨rfl, hb5⟩
          have B5 := Lib.hid (bgo HB.out hb5)
          obtain ⟨hc5, hf5⟩ := bcell hb5
          obtain ⟨hx5, hy5, hv5⟩ := room (n := w4.heap.size) (m := w5.heap.size) (by have := HZ.out; have := hb5.size; omega)
          clear hb5 h1
          go_wp2_with fail
          go_at_call 15
          refine (h2 _).mono ?_
          rintro e w6 ⟨rfl, hb6⟩
          have B6 := Lib.hid (bgo (bal B5.out _) hb6)
          obtain ⟨hc6, hf6⟩ := bcell hb6
          have hk6 : w5.heap.size < w6.heap.size := by have := hb6.size; simp at this; omega
          obtain ⟨hx6, hy6, hv6⟩ := room (n := w4.heap.size) (m := w6.heap.size) (by omega)
          clear hb6
          go_wp2_with (go_at_call 14; ((with_reducible refine (known_any _).mono ?_); rintro e w7 ⟨rfl, hb7⟩; have B7 := bgo (bal B6.out _) hb7; clear hb7))
          go_ret
          exact ⟨rfl, B7⟩
end Go.Proofs.Ytjpinnoolnhphaa
