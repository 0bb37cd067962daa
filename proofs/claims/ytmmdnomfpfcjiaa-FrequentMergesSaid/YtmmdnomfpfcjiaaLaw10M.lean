/- The walk of the law FrequentMerges. -/
import Derived.Test.YtmmdnomfpfcjiaaSkQ
import Derived.Test.YtmmdnomfpfcjiaaSpoilQ
import Derived.Test.YtmmdnomfpfcjiaaMadeQ
import Derived.Test.YtmmdnomfpfcjiaaRMerQ
namespace Go.Proofs.Ytmmdnomfpfcjiaa
open Go.RowKit
set_option linter.unusedVariables false
set_option linter.unusedSimpArgs false
theorem wrap64_bd (n : Int) : -9223372036854775808 ≤ wrap64 n ∧ wrap64 n ≤ 9223372036854775807 := by
  unfold wrap64
  omega
theorem SkQ.next {c : FQ} {v : Value} {w : World} {o : Obj} (h : RdE c.L v w) : SkQ (w.heap.size + 1) c v ((w.alloc o).alloc (.cells #[.int .i64 c.S, .int .i64 c.T, .int .i64 c.K, v, .bool c.s] 25)) := by
  have := SkQ.new (c := c) (h.below (b1 o))
  rwa [show (w.alloc o).heap.size = w.heap.size + 1 by simp] at this
theorem sumQ_len (a b : FQ) : (sumQ a b).L.length ≤ a.L.length + b.L.length := by
  unfold sumQ
  exact Nat.le_trans (lowL_len _ _) (unL_len _ _)
theorem merQ_len (a b : FQ) : (merQ a b).L.length ≤ a.L.length + b.L.length := by
  unfold merQ
  split
  · exact Nat.zero_le _
  · exact sumQ_len a b
set_option maxRecDepth 100000 in
set_option maxHeartbeats 4000000 in
theorem frequentMerges_walk (S : Int) (al : Option Addr) (ln cap : Nat) (z : List Int) (bl : Option Addr) (lm cbp : Nat) (y : List Int) (n : Int) (W : World) (wa : (Lit.int .i64 S).wf = true) (w0 : InRow .i64 W al ln cap z) (w1 : InRow .i64 W bl lm cbp y) (wn : (Lit.int .i64 n).wf = true) :
    Calls Try.prog 4 #[.int .i64 S, .slice al ln cap, .slice bl lm cbp, .int .i64 n] W fun e w' => e = .returned (.bool true) ∧ Below W.heap.size W w' := by
  obtain ⟨S0, S1⟩ := wf_bd wa
  obtain ⟨n0, n1⟩ := wf_bd wn
  have h1 := madeQ_any S (z.take ln) _ W S0 S1 (inRow_rdJ w0)
  have hm := Lib.hid (madeQ_ok S (z.take ln))
  generalize madeQ S (z.take ln) = cm at *
  have h2 := fun (v : Value) (w : World) (hv : RdQ cm v w) => spoilQ_any cm v n w hm.out.1.wf hv (by have := hm.out.2; omega) n0 n1
  have HY := Lib.hid (inRow_rdJ w1)
  have h3 := fun (p : Int) (w : World) (hb : Below W.heap.size W w) (r0 : -9223372036854775808 ≤ p) (r1 : p ≤ 9223372036854775807) => madeQ_any p (y.take lm) (.slice bl lm cbp) w r0 r1 (HY.out.below hb)
  have h4 := fun (p : Int) (v : Value) (w : World) (hv : RdQ (madeQ p (y.take lm)) v w) => have hk := madeQ_ok p (y.take lm); spoilQ_any (madeQ p (y.take lm)) v (n / 16384) w hk.1.wf hv (by omega) (by omega) (by omega)
  generalize y.take lm = M at *
  have m1 := mask4 (n / 1024)
  have e1 : 0 ≤ n / 1024 % 16 ∧ n / 1024 % 16 ≤ 15 := by omega
  have hq : (n / 1024 % 16).tdiv 15 = n / 1024 % 16 / 15 := Int.tdiv_eq_ediv_of_nonneg e1.1
  have hqb : 0 ≤ n / 1024 % 16 / 15 ∧ n / 1024 % 16 / 15 ≤ 1 := by omega
  generalize n / 1024 % 16 = p at *
  obtain ⟨e10, e11⟩ := e1
  clear wa wn w0 w1
  go_enter Try.func4, Try.ntmps4
  go_wp2_with (first
    | (go_at_call 9; (with_reducible refine h1.mono ?_); rintro e w2 ⟨v2, B2v, rfl, hr2, hb2⟩; have O2 := Lib.hid hr2.rd; have B2 := Lib.hid hb2; clear h1 hr2 hb2)
    | (go_at_call 8; (with_reducible refine (h2 _ _ O2.out).mono ?_); rintro e w3 ⟨c, v3, rfl, hwc, ⟨a3, n3, c3, rfl, ho3⟩, hlc, hb3⟩; have HWc := Lib.hid hwc; have HLc := Lib.hid hlc; have R3 := Lib.hid ho3; have B3 := Lib.hid (bgo B2.out hb3); clear h2 hwc hlc ho3 hb3 B2 O2 hm)
    | (go_at_call 9; (with_reducible refine (h3 _ _ B3.out (wrap64_bd _).1 (wrap64_bd _).2).mono ?_); rintro e w4 ⟨v4, B4v, rfl, hr4, hb4⟩; have O4 := Lib.hid hr4.rd; have R4 := Lib.hid (R3.out.below hb4); have B4 := Lib.hid (bgo B3.out hb4); clear h3 hr4 hb4 R3 B3)
    | (go_at_call 8; (with_reducible refine (h4 _ _ _ O4.out).mono ?_); rintro e w5 ⟨d, v5, rfl, hwd, ⟨a5, n5, c5, rfl, ho5⟩, hld, hb5⟩; have HWd := Lib.hid hwd; have HLd := Lib.hid hld; have A5 := Lib.hid ((SkQ.new (R4.out.below hb5)).alloc (.cells #[.int .i64 d.S, .int .i64 d.T, .int .i64 d.K, .slice a5 n5 c5, .bool d.s] 25)); have C5 := Lib.hid (SkQ.next (o := (.cells #[.int .i64 c.S, .int .i64 c.T, .int .i64 c.K, .slice a3 n3 c3, .bool c.s] 25)) ho5); have B5 := Lib.hid (bal (bal (bgo B4.out hb5) (.cells #[.int .i64 c.S, .int .i64 c.T, .int .i64 c.K, .slice a3 n3 c3, .bool c.s] 25)) (.cells #[.int .i64 d.S, .int .i64 d.T, .int .i64 d.K, .slice a5 n5 c5, .bool d.s] 25)); clear h4 hwd hld ho5 hb5 R4 B4 O4; obtain ⟨p0, p1, p2, p3, p4⟩ := A5.out.cells; obtain ⟨q0, q1, q2, q3, q4⟩ := C5.out.cells)
    | (go_at_call 19; (with_reducible refine (pmerQ_any c d _ _ _ A5.out.rd C5.out.rd (by have := HLc.out; have := HLd.out; omega) HWc.out HWd.out).mono ?_); rintro e w6 ⟨u, rfl, ⟨a6, n6, c6, rfl, ho6⟩, hb6⟩; have h5 := Lib.hid (fun (v u : Value) (w : World) (hv : RdQ c v w) (hu : RdQ d u w) => rmerQ_any c d v u w hv hu (by have := HLc.out; have := HLd.out; omega) HWc.out HWd.out); have HLm := Lib.hid (merQ_len c d); generalize merQ c d = m at *; generalize merQE c d = E at *; have A6 := Lib.hid ((A5.out.go hb6).alloc (.cells #[.int .i64 m.S, .int .i64 m.T, .int .i64 m.K, .slice a6 n6 c6, .bool m.s] 25)); have C6 := Lib.hid ((C5.out.go hb6).alloc (.cells #[.int .i64 m.S, .int .i64 m.T, .int .i64 m.K, .slice a6 n6 c6, .bool m.s] 25)); have M6 := Lib.hid (SkQ.new ho6.rd); have B6 := Lib.hid (bal (bgo B5.out hb6) (.cells #[.int .i64 m.S, .int .i64 m.T, .int .i64 m.K, .slice a6 n6 c6, .bool m.s] 25)); clear ho6 hb6 A5 C5 B5 p0 p1 p2 p3 p4 q0 q1 q2 q3 q4; obtain ⟨p0, p1, p2, p3, p4⟩ := A6.out.cells; obtain ⟨q0, q1, q2, q3, q4⟩ := C6.out.cells)
    | (go_at_call 20; (with_reducible refine (h5.out _ _ _ A6.out.rd C6.out.rd).mono ?_); rintro e w7 ⟨u, rfl, ⟨a7, n7, c7, rfl, ho7⟩, hb7⟩; have M7 := Lib.hid ((M6.out.go hb7).alloc (.cells #[.int .i64 m.S, .int .i64 m.T, .int .i64 m.K, .slice a7 n7 c7, .bool m.s] 25)); have N7 := Lib.hid (SkQ.new ho7.rd); have B7 := Lib.hid (bal (bgo B6.out hb7) (.cells #[.int .i64 m.S, .int .i64 m.T, .int .i64 m.K, .slice a7 n7 c7, .bool m.s] 25)); clear ho7 hb7 A6 C6 M6 B6 p0 p1 p2 p3 p4 q0 q1 q2 q3 q4 h5; obtain ⟨p0, p1, p2, p3, p4⟩ := M7.out.cells; obtain ⟨q0, q1, q2, q3, q4⟩ := N7.out.cells)
    | (go_at_call 15; (with_reducible refine (sameQ_any m _ _ _ M7.out.rd N7.out.rd (by have h1 := HLm.out; have h2 := HLc.out; have h3 := HLd.out; omega)).mono ?_); rintro e w8 ⟨rfl, hb8⟩; have B8 := Lib.hid (bgo B7.out hb8); clear hb8 M7 N7 B7 p0 p1 p2 p3 p4 q0 q1 q2 q3 q4)
    | (go_at_call 18; (with_reducible refine (knownQ_any _).mono ?_); rintro e w10 ⟨rfl, hb10⟩; have BZ := Lib.hid (bgo B8.out hb10); clear hb10))
  go_ret
  exact ⟨rfl, BZ.out⟩
end Go.Proofs.Ytmmdnomfpfcjiaa
