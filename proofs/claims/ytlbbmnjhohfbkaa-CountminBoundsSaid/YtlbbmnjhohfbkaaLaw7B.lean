/- The walk of the law CountminBounds. -/
import Derived.Test.YtlbbmnjhohfbkaaCmSums
import Derived.Test.YtlbbmnjhohfbkaaCmKnown
import Derived.Test.YtlbbmnjhohfbkaaCmEst
import Derived.Test.YtlbbmnjhohfbkaaCmIns
import Derived.Test.YtlbbmnjhohfbkaaOffI
namespace Go.Proofs.Ytlbbmnjhohfbkaa
open Go.RowKit
set_option linter.unusedVariables false
set_option linter.unusedSimpArgs false
/-- The sketch of a loop, in its struct. -/
def StB (W : World) (g : Nat) (c : CM) (w : World) : Prop :=
  Below W.heap.size W w ∧ W.heap.size ≤ g ∧ g < w.heap.size ∧ ∃ a n cap, CSt g c.D c.S c.x (.slice a n cap) c.s w ∧ OffI g c.L (.slice a n cap) w
theorem StB.step {W : World} {g : Nat} {d : CM} {w : World} (B : Below W.heap.size W w) (hg : W.heap.size ≤ g) (z : g < w.heap.size) {D S x : Int} {v : Value} {s : Bool} (C : CSt g D S x v s w) {a : Option Addr} {n cap : Nat} (O : OffI g d.L (.slice a n cap) w) :
    StB W g d (((((w.setCell ⟨g, 0, none⟩ (.int .i64 d.D)).setCell ⟨g, 1, none⟩ (.int .i64 d.S)).setCell ⟨g, 2, none⟩ (.int .u64 d.x)).setCell ⟨g, 3, none⟩ (.slice a n cap)).setCell ⟨g, 4, none⟩ (.bool d.s)) := by
  have ho := Oth.set5 g w (.int .i64 d.D) (.int .i64 d.S) (.int .u64 d.x) (.slice a n cap) (.bool d.s)
  exact ⟨B.trans (ho.1.mono hg), hg, Nat.lt_of_lt_of_le z ho.1.size, a, n, cap, C.set5 _ _ _ _ _ _ _, O.oth ho⟩
theorem StB.new {W : World} {c : CM} {a : Option Addr} {n cap : Nat} {w : World} (B : Below W.heap.size W w) (h : RdI c.L (.slice a n cap) w) :
    StB W w.heap.size c (w.alloc (.cells #[.int .i64 c.D, .int .i64 c.S, .int .u64 c.x, .slice a n cap, .bool c.s] 26)) :=
  ⟨bal B _, B.size, by simp, a, n, cap, CSt.new _ _ _ _ _ _ _, (OffI.new h (Nat.le_refl _)).below (b1 _)⟩
theorem StB.below {W : World} {g : Nat} {c : CM} {w w' : World} (h : StB W g c w) (hb : Below w.heap.size w w') : StB W g c w' := by
  obtain ⟨B, hg, z, a, n, cap, C, O⟩ := h
  exact ⟨bgo B hb, hg, Nat.lt_of_lt_of_le z hb.size, a, n, cap, C.below hb z, O.below hb⟩
/-- An item in a struct. -/
def Itm (g : Nat) (K : ByteArray) (y : Int) (w : World) : Prop := w.cell? ⟨g, 0, none⟩ = some (.string K) ∧ w.cell? ⟨g, 1, none⟩ = some (.int .i64 y) ∧ g < w.heap.size
theorem Itm.new (w : World) (K : ByteArray) (y : Int) (t : TypeId) : Itm w.heap.size K y (w.alloc (.cells #[.string K, .int .i64 y] t)) := ⟨by go_simp, by go_simp, by simp⟩
theorem Itm.below {g : Nat} {K : ByteArray} {y : Int} {w w' : World} (h : Itm g K y w) (hb : Below w.heap.size w w') : Itm g K y w' :=
  ⟨(hb.cell (p := ⟨g, 0, none⟩) h.2.2).trans h.1, (hb.cell (p := ⟨g, 1, none⟩) h.2.2).trans h.2.1, Nat.lt_of_lt_of_le h.2.2 hb.size⟩
theorem key_eq (s t : ByteArray) : (s.toList == t.toList) = decide (s = t) := by
  rw [Lib.toList_data, Lib.toList_data]
  by_cases h : s = t
  · subst h
    simp
  · rw [decide_eq_false h, beq_eq_false_iff_ne]
    intro e
    exact h (ByteArray.ext (Array.toList_inj.1 e))
set_option maxRecDepth 100000 in
set_option maxHeartbeats 4000000 in
theorem countminBounds_walk (a b s : Int) (al : Option Addr) (ln cap : Nat) (z : List Int) (n : Int) (W : World) (wa : (Lit.int .i64 a).wf = true) (wb : (Lit.int .i64 b).wf = true) (ws : (Lit.int .i64 s).wf = true) (w0 : InRow .i64 W al ln cap z) (wn : (Lit.int .i64 n).wf = true) :
    Calls Try.prog 8 #[.int .i64 a, .int .i64 b, .int .i64 s, .slice al ln cap, .int .i64 n] W fun e w' => e = .returned (.bool true) ∧ Below W.heap.size W w' := by
  obtain ⟨n0, n1⟩ := wf_bd wn
  have hx := wrap_bd s
  have HR := Lib.hid (inRow_rdJ w0)
  have hlen : (z.take ln).length = ln := by obtain ⟨h1, _⟩ := w0; simp; omega
  generalize z.take ln = L at *
  subst hlen
  have hlL : (L.length : Int) ≤ 9223372036854775807 := by
    obtain ⟨_, _, _, _, h1, h2, _⟩ := HR.out
    unfold maxLen at h2
    omega
  have m1 := mask2 a
  have m2 := mask3 b
  have m3 := mask8 n
  have e0 : 0 ≤ a % 4 ∧ a % 4 ≤ 3 := by omega
  have e1 : 0 ≤ b % 8 ∧ b % 8 ≤ 7 := by omega
  have e2 : 0 ≤ n % 256 ∧ n % 256 ≤ 255 := by omega
  have hmd := md_bd a b
  have HA := Lib.hid (fun k => (newC_ok hmd (IntKind.u64.wrap s)).up (L.take k))
  have HW := Lib.hid (fun k => (WfC.new (D := 1 + a % 4) (S := 1 + b % 8) (x := IntKind.u64.wrap s) (by omega) (by omega) (by omega) (by omega) hx.1 hx.2).up (L.take k))
  have h1 := fun w => cnew_any (1 + a % 4) (1 + b % 8) (IntKind.u64.wrap s) w (by omega) (by omega) (by omega) (by omega)
  have HE0 : newE (1 + a % 4) (1 + b % 8) = 0 := by unfold newE; rw [if_pos ((shpB_iff _ _).2 hmd)]
  rw [HE0] at h1
  have h3 := fun w => key_any (n % 256) w (by omega) (by omega)
  have hks := keyS_bd (n % 256)
  have hK : keyB (byt (keyS (n % 256))) = true := by unfold keyB; rw [byt_len]; simp; omega
  have HKs := Lib.hid (show (keyS (n % 256)).size ≤ maxLen by unfold maxLen; omega)
  have HB := Lib.hid (fun k (hk : k ≤ L.length) => est_between hmd (x := IntKind.u64.wrap s) L k hk (keyS (n % 256)) hK)
  have HS0 : mdUp (newC (1 + a % 4) (1 + b % 8) (IntKind.u64.wrap s)) (L.take 0) = newC (1 + a % 4) (1 + b % 8) (IntKind.u64.wrap s) := rfl
  have HSU := Lib.hid (fun k (hk : k < L.length) => mdUp_succ (newC (1 + a % 4) (1 + b % 8) (IntKind.u64.wrap s)) hk)
  have HIN := Lib.hid (fun k j => ((HA.out k).ins (keyS j) (wtS j) (itemS j)).2)
  clear hks hK HE0 HA hmd
  generalize keyS (n % 256) = K at *
  generalize newC (1 + a % 4) (1 + b % 8) (IntKind.u64.wrap s) = c0 at *
  generalize a % 4 = p at *
  generalize b % 8 = q at *
  generalize n % 256 = r at *
  obtain ⟨e00, e01⟩ := e0
  obtain ⟨e10, e11⟩ := e1
  obtain ⟨e20, e21⟩ := e2
  clear wa wb ws wn w0 hx n0 n1
  go_enter Try.func8, Try.ntmps8
  go_wp2_with (first
    | (go_at_call 11; (with_reducible refine (h1 _).mono ?_); rintro e w2 ⟨v2, rfl, ⟨a2, n2, c2, rfl, ho2⟩, hb2⟩; have B2 := Lib.hid hb2; have I2 := Lib.hid (StB.new hb2 ho2.rd); clear h1 ho2 hb2)
    | (go_at_call 27; (with_reducible refine (h3 _).mono ?_); rintro e w3 ⟨rfl, hb3⟩; have I3 := Lib.hid (I2.out.below hb3); clear h3 hb3 I2 B2))
  rw [← HS0] at I3
  clear HS0
  go_loopw [12, 14, 15, 16] (fun e o t i wr => ∃ k : Nat, k ≤ L.length ∧ k ≤ 10 ∧ e = .int .i64 0 ∧ o = .int .i64 (ownW K L k) ∧ t = .int .i64 (allW L k) ∧ i = .int .i64 (k : Int) ∧ Hid (StB W w2.heap.size (mdUp c0 (L.take k)) wr)) (fun _ _ _ i _ => 10 - (intOf i).toNat)
  case atStart => exact ⟨0, by omega, by omega, rfl, rfl, rfl, rfl, I3⟩
  case round =>
    clear I3
    obtain ⟨k, hk, hk10, rfl, rfl, rfl, rfl, HI⟩ := hrel
    obtain ⟨hbw, hgW, hgs, a5, n5, c5, hcg, hof⟩ := HI.out
    have HC := Lib.hid hcg
    have HO := Lib.hid hof
    have HBW := Lib.hid hbw
    have hab := allW_bd L k
    have hob := ownW_bd K L k
    have hab1 := allW_bd L (k + 1)
    have hob1 := ownW_bd K L (k + 1)
    have HWk := HW.out k
    by_cases hgo : k < L.length ∧ k < 10
    · obtain ⟨hlt, hlt10⟩ := hgo
      have mz := mask16 (L.getD k 0)
      have hz := HR.out.at_ k
      have hit := fun w => bitem_any (L.getD k 0 % 65536) w (by omega) (by omega)
      have hks := keyS_bd (L.getD k 0 % 65536)
      have hwt := wtS_bd (L.getD k 0 % 65536)
      have h2 := fun (v : Value) (w : World) (hv : RdC (mdUp c0 (L.take k)) v w) => cins_any (mdUp c0 (L.take k)) v (keyS (L.getD k 0 % 65536)) (wtS (L.getD k 0 % 65536)) w HWk hv (by unfold maxLen; omega) (by omega) (by omega)
      rw [HIN.out k (L.getD k 0 % 65536), ← HSU.out k hlt] at h2
      have HA1 := Lib.hid (show allW L (k + 1) = allW L k + wtS (L.getD k 0 % 65536) from rfl)
      obtain ⟨bq, hq, hO1⟩ : ∃ bq : Bool, ((keyS (L.getD k 0 % 65536)).toList == K.toList) = bq ∧ ownW K L (k + 1) = (if bq = true then ownW K L k + wtS (L.getD k 0 % 65536) else ownW K L k) := by
        refine ⟨_, rfl, ?_⟩
        rw [key_eq]
        by_cases hKK : keyS (L.getD k 0 % 65536) = K
        · rw [if_pos (decide_eq_true hKK)]; exact if_pos hKK
        · rw [if_neg (by rw [decide_eq_false hKK]; decide)]; exact if_neg hKK
      obtain ⟨d, hd⟩ : ∃ d, mdUp c0 (L.take (k + 1)) = d := ⟨_, rfl⟩
      rw [hd] at h2
      have HD := Lib.hid hd
      rw [hO1] at hob1
      have HO1 := Lib.hid hO1
      have hlI : (k : Int) < (L.length : Int) := by omega
      have h10I : (k : Int) < 10 := by omega
      obtain ⟨_, a6, cap6, he6, _, _, hc6⟩ := HR.out.below (hbw.mono (Nat.le_refl _))
      simp only [Value.slice.injEq, true_and] at he6
      obtain ⟨rfl, rfl⟩ := he6
      obtain ⟨b6, off6, rfl, hb6, hcell6⟩ := hc6 (by omega)
      have hcc6 := hcell6 k hlt
      rw [HA1.out] at hab1
      clear hcell6 hc6 hks hz HWk hbw hof hd hO1
      generalize L.getD k 0 = y at *
      generalize y % 65536 = j at *
      generalize keyS j = K1 at *
      generalize wtS j = x at *
      generalize mdUp c0 (L.take k) = c at *
      generalize allW L k = A at *
      generalize ownW K L k = O at *
      obtain ⟨⟨p0, p1, p2, p3, p4⟩, -⟩ := HC.out
      clear hcg
      cases bq
      all_goals
        simp only [Bool.false_eq_true, if_true, if_false] at hob1
        go_wp2_with (first
          | (go_at_call 18; (with_reducible refine (hit _).mono ?_); rintro e w4 ⟨rfl, hb4⟩; have C4 := Lib.hid ((HC.out.below hb4 hgs).below (b1 (.cells #[.string K1, .int .i64 x] 37)) (Nat.lt_of_lt_of_le hgs hb4.size)); have O4 := Lib.hid ((HO.out.below hb4).below (b1 (.cells #[.string K1, .int .i64 x] 37))); have T4 := Lib.hid (Itm.new w4 K1 x 37); have B4 := Lib.hid (bal (bgo HBW.out hb4) (.cells #[.string K1, .int .i64 x] 37)); have z4 := Nat.lt_of_lt_of_le hgs hb4.size; (have y4 : w2.heap.size < (w4.alloc (.cells #[.string K1, .int .i64 x] 37)).heap.size := by simp; omega); clear hit hb4 p0 p1 p2 p3 p4; obtain ⟨⟨p0, p1, p2, p3, p4⟩, -⟩ := C4.out)
          | (go_at_call 19; (with_reducible refine (h2 _ _ (RdC.of O4.out.rd)).mono ?_); rintro e w5 ⟨u, rfl, ⟨a7, n7, c7, rfl, ho7⟩, hb7⟩; have C5 := Lib.hid (C4.out.below hb7 y4); have O5 := Lib.hid (OffI.own ho7 y4); have T5 := Lib.hid (T4.out.below hb7); have B5 := Lib.hid (bgo B4.out hb7); have y5 := Nat.lt_of_lt_of_le y4 hb7.size; (have ne1 : ¬ w4.heap.size = w2.heap.size := by omega); (have ne2 : ¬ w2.heap.size = w4.heap.size := by omega); clear h2 ho7 hb7 p0 p1 p2 p3 p4 C4 O4 T4 B4; obtain ⟨⟨p0, p1, p2, p3, p4⟩, f0, f1, f2, f3, f4⟩ := C5.out; obtain ⟨t0, t1, -⟩ := T5.out))
      all_goals
        exact ⟨⟨k + 1, by omega, by omega, rfl, by rw [HO1.out]; rfl, by rw [HA1.out], by go_num, by rw [HD.out]; exact Lib.hid (StB.step B5.out hgW y5 C5.out O5.out)⟩, by simp [intOf]; omega⟩
    · obtain ⟨hE, hbt⟩ := HB.out k hk
      have h4 := fun (v : Value) (w : World) (hv : RdC (mdUp c0 (L.take k)) v w) => cest_any (mdUp c0 (L.take k)) v K w HWk hv HKs.out
      rw [hE] at h4
      have hgo2 : (¬ (k : Int) < (L.length : Int)) ∨ ((k : Int) < (L.length : Int) ∧ ¬ (k : Int) < 10) := by omega
      clear hE hab1 hob1 hgo HWk hbw hof hcg
      generalize cmEst (mdUp c0 (L.take k)) K = V at *
      generalize mdUp c0 (L.take k) = c at *
      generalize allW L k = A at *
      generalize ownW K L k = O at *
      obtain ⟨⟨p0, p1, p2, p3, p4⟩, -⟩ := HC.out
      have hs : c.s = true ∨ (c.s = false ∧ O ≤ V ∧ V ≤ A) := by
        cases hcs : c.s
        · exact .inr ⟨rfl, hbt hcs⟩
        · exact .inl rfl
      clear hbt
      rcases hs with hs | ⟨hs, hv1, hv2⟩
      all_goals
        have Hs := Lib.hid hs
        clear hs
        rcases hgo2 with hg1 | ⟨hg1, hg2⟩
      all_goals
        go_wp2_with (first
          | (go_at_call 25; (with_reducible refine (h4 _ _ (RdC.of HO.out.rd)).mono ?_); rintro e w4 ⟨rfl, hb4⟩; have C4 := Lib.hid (HC.out.below hb4 hgs); have B4 := Lib.hid (bgo HBW.out hb4); clear h4 hb4 p0 p1 p2 p3 p4; obtain ⟨⟨p0, p1, p2, p3, p4⟩, -⟩ := C4.out; rw [Hs.out] at p4)
          | (go_at_call 10; (with_reducible refine (known_any _).mono ?_); rintro e wz ⟨rfl, hbz⟩; have BZ := Lib.hid (bgo B4.out hbz); clear hbz))
        go_ret
        exact ⟨rfl, BZ.out⟩
end Go.Proofs.Ytlbbmnjhohfbkaa
