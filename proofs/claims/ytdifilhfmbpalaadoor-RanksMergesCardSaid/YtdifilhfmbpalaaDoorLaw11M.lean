/- The walk of the law RanksMerges. -/
import Derived.Test.YtdifilhfmbpalaaDoorRkL
import Derived.Test.YtdifilhfmbpalaaDoorRkZ
import Derived.Test.YtdifilhfmbpalaaDoorSpoilR
import Derived.Test.YtdifilhfmbpalaaDoorMadeR
import Derived.Test.YtdifilhfmbpalaaDoorRRkM
namespace Go.Proofs.YtdifilhfmbpalaaDoor
open Go.RowKit
set_option linter.unusedVariables false
set_option linter.unusedSimpArgs false
theorem mask3m (n : Int) : bits .and .i64 n 7 = n % 8 := i64_mask 3 (by decide) n
theorem wrap64_bdR (x : Int) : -9223372036854775808 ≤ wrap64 x ∧ wrap64 x ≤ 9223372036854775807 := by unfold wrap64; omega
set_option maxRecDepth 100000 in
set_option maxHeartbeats 8000000 in
theorem ranksMerges_walk (S : Int) (al : Option Addr) (ln cap : Nat) (z : List Int) (dl : Option Addr) (lo cdp : Nat) (q : List Int) (bl : Option Addr) (lm cbp : Nat) (y : List Int) (n : Int) (at_ : Int) (W : World) (wa : (Lit.int .i64 S).wf = true) (w0 : InRow .i64 W al ln cap z) (w2 : InRow .i64 W dl lo cdp q) (w1 : InRow .u8 W bl lm cbp y) (wn : (Lit.int .i64 n).wf = true) (wt : (Lit.int .i64 at_).wf = true) (ht : TabP W) :
    Calls Tryd.prog 4 #[.int .i64 S, .slice al ln cap, .slice dl lo cdp, .slice bl lm cbp, .int .i64 n, .int .i64 at_] W fun e w' => e = .returned (.bool true) ∧ Below W.heap.size W w' := by
  obtain ⟨S0, S1⟩ := wf_bd wa
  obtain ⟨n0, n1⟩ := wf_bd wn
  have HZ := Lib.hid (inRow_rd w1)
  have HT := Lib.hid ht
  have HY := Lib.hid (inRow_rdJ w2)
  have h1 := madeR_any S (z.take ln) (y.take lm) _ _ W S0 S1 (inRow_rdJ w0) (inRow_rd w1)
  have hm := madeR_val S (z.take ln) (y.take lm)
  generalize madeR S (z.take ln) (y.take lm) = cm at *
  have h2 := Lib.hid (fun (B : Nat) (v : Value) (w : World) (hv : RbR B cm v w) (hB : B ≤ w.heap.size) => spoilR_any B cm v n w hm hv hB n0 n1)
  generalize y.take lm = Z at *
  have h3 := Lib.hid (fun (p : Int) (w : World) (hb : Below W.heap.size W w) (r0 : -9223372036854775808 ≤ p) (r1 : p ≤ 9223372036854775807) => madeR_any p (q.take lo) Z (.slice dl lo cdp) _ w r0 r1 (HY.out.below hb) (HZ.out.below hb))
  have h4 := Lib.hid (fun (p : Int) (B : Nat) (v : Value) (w : World) (hv : RbR B (madeR p (q.take lo) Z) v w) (hB : B ≤ w.heap.size) => spoilR_any B (madeR p (q.take lo) Z) v (n / 16384) w (madeR_val p (q.take lo) Z) hv hB (by omega) (by omega))
  generalize q.take lo = M at *
  have hsh := fun w (hb : Below W.heap.size W w) => short_any Z _ w (HZ.out.below hb)
  have hkn := Lib.hid (fun w (hb : Below W.heap.size W w) => knownR_any w (HT.out.below hb))
  have m1 := mask4s (n / 1024)
  have e1 : 0 ≤ n / 1024 % 16 ∧ n / 1024 % 16 ≤ 15 := by omega
  have hq : (n / 1024 % 16).tdiv 15 = n / 1024 % 16 / 15 := Int.tdiv_eq_ediv_of_nonneg e1.1
  have hqb : 0 ≤ n / 1024 % 16 / 15 ∧ n / 1024 % 16 / 15 ≤ 1 := by omega
  have m4 := mask3m at_
  have m5 := mask6 (at_ / 8)
  generalize n / 1024 % 16 = p at *
  obtain ⟨e10, e11⟩ := e1
  clear wa wn w0 w1 w2 wt hm ht
  by_cases hs : Z.length ≤ 100
  · rw [decide_eq_true hs] at hsh
    obtain ⟨A, hA⟩ : ∃ A : Int, (at_ % 8 = 7 ∧ A = at_) ∨ (¬ at_ % 8 = 7 ∧ A = at_ / 8 % 64) := by
      by_cases h7 : at_ % 8 = 7
      · exact ⟨_, .inl ⟨h7, rfl⟩⟩
      · exact ⟨_, .inr ⟨h7, rfl⟩⟩
    have hP := Lib.hid (fun (c d : RK) (hc : LOk c.L) (hd : LOk d.L) (v u : Value) (w : World) (hv : RdR c v w) (hu : RdR d u w) (hb : Below W.heap.size W w) => pmerR_any c d v u _ Z A w hv hu hc hd (HZ.out.below hb))
    have hQ := Lib.hid (fun (c d : RK) (hc : LOk c.L) (hd : LOk d.L) (v u : Value) (w : World) (hv : RbR 0 c v w) (hu : RdR d u w) (hb : Below W.heap.size W w) => rmerR_any c d v u _ Z A 0 w hv hu (Nat.zero_le _) hc hd (HZ.out.below hb))
    rcases hA with ⟨h7, rfl⟩ | ⟨h7, hA⟩
    · rw [h7] at m4
      go_enter Tryd.func4, Tryd.ntmps4
      go_wp2_with (first
        | (go_at_call 10; (with_reducible refine (hsh _ (Below.refl _ _)).mono ?_); rintro e w' ⟨rfl, rfl⟩)
        | (go_at_call 13; (with_reducible refine h1.mono ?_); rintro e w2 ⟨v2, rfl, hr2, hb2⟩; have O2 := Lib.hid hr2; have B2 := Lib.hid hb2; clear h1 hr2 hb2)
        | (go_at_call 12; (with_reducible refine (h2.out _ _ _ O2.out B2.out.size).mono ?_); rintro e w3 ⟨c, v3, rfl, hwc, hlc, ⟨a3, n3, c3, rfl, ho3⟩, hb3⟩; have HLc := Lib.hid hlc; have R3 := Lib.hid ho3; have B3 := Lib.hid (bgo B2.out hb3); clear h2 hwc hlc ho3 hb3 B2 O2)
        | (go_at_call 13; (with_reducible refine (h3.out _ _ B3.out (wrap64_bdR _).1 (wrap64_bdR _).2).mono ?_); rintro e w4 ⟨v4, rfl, hr4, hb4⟩; have O4 := Lib.hid hr4; have Z4 := Lib.hid hb4.size; have R4 := Lib.hid (R3.out.below hb4); have B4 := Lib.hid (bgo B3.out hb4); clear h3 hr4 hb4 R3 B3)
        | (go_at_call 12; (with_reducible refine (h4.out _ _ _ _ O4.out Z4.out).mono ?_); rintro e w5 ⟨d, v5, rfl, hwd, hld, ⟨a5, n5, c5, rfl, ho5⟩, hb5⟩; have HLd := Lib.hid hld; have A5 := Lib.hid ((SkR.new (R4.out.below hb5)).al (.cells #[.int .i64 d.S, .int .i64 d.T, .int .i64 d.K, .slice a5 n5 c5, .bool d.s] 28)); have C5 := Lib.hid (SkR.next (o := (.cells #[.int .i64 c.S, .int .i64 c.T, .int .i64 c.K, .slice a3 n3 c3, .bool c.s] 28)) ho5); have B5 := Lib.hid (bal (bal (bgo B4.out hb5) (.cells #[.int .i64 c.S, .int .i64 c.T, .int .i64 c.K, .slice a3 n3 c3, .bool c.s] 28)) (.cells #[.int .i64 d.S, .int .i64 d.T, .int .i64 d.K, .slice a5 n5 c5, .bool d.s] 28)); clear h4 hwd hld ho5 hb5 R4 B4 O4 Z4; obtain ⟨p0, p1, p2, p3, p4⟩ := A5.out.cells; obtain ⟨q0, q1, q2, q3, q4⟩ := C5.out.cells)
        | (go_at_call 22; (with_reducible refine (hP.out c d HLc.out.lok HLd.out.lok _ _ _ A5.out.rd C5.out.rd B5.out).mono ?_); rintro e w6 ⟨u, rfl, ⟨a6, n6, c6, rfl, ho6⟩, hb6⟩; have h5 := Lib.hid (hQ.out c d HLc.out.lok HLd.out.lok); have HLm := Lib.hid (merR_lok c d Z A); generalize merR c d Z A = mm at *; obtain ⟨m, J⟩ := mm; dsimp only at ho6 h5 HLm ⊢; generalize merRE c d A = E at *; have A6 := Lib.hid ((A5.out.go hb6).al (.cells #[.int .i64 m.S, .int .i64 m.T, .int .i64 m.K, .slice a6 n6 c6, .bool m.s] 28)); have C6 := Lib.hid ((C5.out.go hb6).al (.cells #[.int .i64 m.S, .int .i64 m.T, .int .i64 m.K, .slice a6 n6 c6, .bool m.s] 28)); have B6 := Lib.hid (bal (bgo B5.out hb6) (.cells #[.int .i64 m.S, .int .i64 m.T, .int .i64 m.K, .slice a6 n6 c6, .bool m.s] 28)); have M6 := Lib.hid (SkR.new ho6); clear ho6 hb6 A5 C5 B5 p0 p1 p2 p3 p4 q0 q1 q2 q3 q4; obtain ⟨p0, p1, p2, p3, p4⟩ := A6.out.cells; obtain ⟨q0, q1, q2, q3, q4⟩ := C6.out.cells)
        | (go_at_call 23; (with_reducible refine (h5.out _ _ _ A6.out.rb C6.out.rd B6.out).mono ?_); rintro e w7 ⟨u, rfl, ⟨a7, n7, c7, rfl, ho7⟩, hb7⟩; have M7 := Lib.hid ((M6.out.go hb7).al (.cells #[.int .i64 m.S, .int .i64 m.T, .int .i64 m.K, .slice a7 n7 c7, .bool m.s] 28)); have N7 := Lib.hid (SkR.new ho7); have B7 := Lib.hid (bal (bgo B6.out hb7) (.cells #[.int .i64 m.S, .int .i64 m.T, .int .i64 m.K, .slice a7 n7 c7, .bool m.s] 28)); clear ho7 hb7 A6 C6 M6 B6 p0 p1 p2 p3 p4 q0 q1 q2 q3 q4 h5; obtain ⟨p0, p1, p2, p3, p4⟩ := M7.out.cells; obtain ⟨q0, q1, q2, q3, q4⟩ := N7.out.cells)
        | (go_at_call 19; (with_reducible refine (sameR_any m _ _ _ M7.out.rd N7.out.rd HLm.out).mono ?_); rintro e w8 ⟨rfl, hb8⟩; have B8 := Lib.hid (bgo B7.out hb8); clear hb8 M7 N7 B7 p0 p1 p2 p3 p4 q0 q1 q2 q3 q4)
        | (go_at_call 11; (with_reducible refine (hkn.out _ B8.out).mono ?_); rintro e w10 ⟨rfl, hb10⟩; have BZ := Lib.hid (bgo B8.out hb10); clear hb10))
      go_ret
      exact ⟨rfl, BZ.out⟩
    · have h7b : (at_ % 8 != 7) = true := by simpa using h7
      rw [← hA] at m5
      generalize at_ % 8 = r8 at *
      clear hA
      go_enter Tryd.func4, Tryd.ntmps4
      go_wp2_with (first
        | (go_at_call 10; (with_reducible refine (hsh _ (Below.refl _ _)).mono ?_); rintro e w' ⟨rfl, rfl⟩)
        | (go_at_call 13; (with_reducible refine h1.mono ?_); rintro e w2 ⟨v2, rfl, hr2, hb2⟩; have O2 := Lib.hid hr2; have B2 := Lib.hid hb2; clear h1 hr2 hb2)
        | (go_at_call 12; (with_reducible refine (h2.out _ _ _ O2.out B2.out.size).mono ?_); rintro e w3 ⟨c, v3, rfl, hwc, hlc, ⟨a3, n3, c3, rfl, ho3⟩, hb3⟩; have HLc := Lib.hid hlc; have R3 := Lib.hid ho3; have B3 := Lib.hid (bgo B2.out hb3); clear h2 hwc hlc ho3 hb3 B2 O2)
        | (go_at_call 13; (with_reducible refine (h3.out _ _ B3.out (wrap64_bdR _).1 (wrap64_bdR _).2).mono ?_); rintro e w4 ⟨v4, rfl, hr4, hb4⟩; have O4 := Lib.hid hr4; have Z4 := Lib.hid hb4.size; have R4 := Lib.hid (R3.out.below hb4); have B4 := Lib.hid (bgo B3.out hb4); clear h3 hr4 hb4 R3 B3)
        | (go_at_call 12; (with_reducible refine (h4.out _ _ _ _ O4.out Z4.out).mono ?_); rintro e w5 ⟨d, v5, rfl, hwd, hld, ⟨a5, n5, c5, rfl, ho5⟩, hb5⟩; have HLd := Lib.hid hld; have A5 := Lib.hid ((SkR.new (R4.out.below hb5)).al (.cells #[.int .i64 d.S, .int .i64 d.T, .int .i64 d.K, .slice a5 n5 c5, .bool d.s] 28)); have C5 := Lib.hid (SkR.next (o := (.cells #[.int .i64 c.S, .int .i64 c.T, .int .i64 c.K, .slice a3 n3 c3, .bool c.s] 28)) ho5); have B5 := Lib.hid (bal (bal (bgo B4.out hb5) (.cells #[.int .i64 c.S, .int .i64 c.T, .int .i64 c.K, .slice a3 n3 c3, .bool c.s] 28)) (.cells #[.int .i64 d.S, .int .i64 d.T, .int .i64 d.K, .slice a5 n5 c5, .bool d.s] 28)); clear h4 hwd hld ho5 hb5 R4 B4 O4 Z4; obtain ⟨p0, p1, p2, p3, p4⟩ := A5.out.cells; obtain ⟨q0, q1, q2, q3, q4⟩ := C5.out.cells)
        | (go_at_call 22; (with_reducible refine (hP.out c d HLc.out.lok HLd.out.lok _ _ _ A5.out.rd C5.out.rd B5.out).mono ?_); rintro e w6 ⟨u, rfl, ⟨a6, n6, c6, rfl, ho6⟩, hb6⟩; have h5 := Lib.hid (hQ.out c d HLc.out.lok HLd.out.lok); have HLm := Lib.hid (merR_lok c d Z A); generalize merR c d Z A = mm at *; obtain ⟨m, J⟩ := mm; dsimp only at ho6 h5 HLm ⊢; generalize merRE c d A = E at *; have A6 := Lib.hid ((A5.out.go hb6).al (.cells #[.int .i64 m.S, .int .i64 m.T, .int .i64 m.K, .slice a6 n6 c6, .bool m.s] 28)); have C6 := Lib.hid ((C5.out.go hb6).al (.cells #[.int .i64 m.S, .int .i64 m.T, .int .i64 m.K, .slice a6 n6 c6, .bool m.s] 28)); have B6 := Lib.hid (bal (bgo B5.out hb6) (.cells #[.int .i64 m.S, .int .i64 m.T, .int .i64 m.K, .slice a6 n6 c6, .bool m.s] 28)); have M6 := Lib.hid (SkR.new ho6); clear ho6 hb6 A5 C5 B5 p0 p1 p2 p3 p4 q0 q1 q2 q3 q4; obtain ⟨p0, p1, p2, p3, p4⟩ := A6.out.cells; obtain ⟨q0, q1, q2, q3, q4⟩ := C6.out.cells)
        | (go_at_call 23; (with_reducible refine (h5.out _ _ _ A6.out.rb C6.out.rd B6.out).mono ?_); rintro e w7 ⟨u, rfl, ⟨a7, n7, c7, rfl, ho7⟩, hb7⟩; have M7 := Lib.hid ((M6.out.go hb7).al (.cells #[.int .i64 m.S, .int .i64 m.T, .int .i64 m.K, .slice a7 n7 c7, .bool m.s] 28)); have N7 := Lib.hid (SkR.new ho7); have B7 := Lib.hid (bal (bgo B6.out hb7) (.cells #[.int .i64 m.S, .int .i64 m.T, .int .i64 m.K, .slice a7 n7 c7, .bool m.s] 28)); clear ho7 hb7 A6 C6 M6 B6 p0 p1 p2 p3 p4 q0 q1 q2 q3 q4 h5; obtain ⟨p0, p1, p2, p3, p4⟩ := M7.out.cells; obtain ⟨q0, q1, q2, q3, q4⟩ := N7.out.cells)
        | (go_at_call 19; (with_reducible refine (sameR_any m _ _ _ M7.out.rd N7.out.rd HLm.out).mono ?_); rintro e w8 ⟨rfl, hb8⟩; have B8 := Lib.hid (bgo B7.out hb8); clear hb8 M7 N7 B7 p0 p1 p2 p3 p4 q0 q1 q2 q3 q4)
        | (go_at_call 11; (with_reducible refine (hkn.out _ B8.out).mono ?_); rintro e w10 ⟨rfl, hb10⟩; have BZ := Lib.hid (bgo B8.out hb10); clear hb10))
      go_ret
      exact ⟨rfl, BZ.out⟩
  · rw [decide_eq_false hs] at hsh
    go_enter Tryd.func4, Tryd.ntmps4
    go_wp2_with (first
      | (go_at_call 10; (with_reducible refine (hsh _ (Below.refl _ _)).mono ?_); rintro e w' ⟨rfl, rfl⟩)
      | (go_at_call 11; (with_reducible refine (hkn.out _ (Below.refl _ _)).mono ?_); rintro e w2 ⟨rfl, hb2⟩; have B2 := Lib.hid hb2; clear hb2))
    go_ret
    exact ⟨rfl, B2.out⟩
  end Go.Proofs.YtdifilhfmbpalaaDoor
