/- The walk of the law TopkCommutes. -/
import Derived.Test.YtcmekpdgikploaaCom9
import Derived.Test.YtcmekpdgikploaaKnown9
import Derived.Test.YtcmekpdgikploaaPMerE
namespace Go.Proofs.Ytcmekpdgikploaa
open Go.RowKit
set_option linter.unusedVariables false
set_option linter.unusedSimpArgs false
/-- The contract of a merge of summaries of insertions. -/
theorem pmer_spc {S : Int} {f g : ByteArray → Int} {V W : Int} {a b : TP} (ha : Spc S f V a) (hb : Spc S g W b) (hw : V + W ≤ 1099511627776) (hS : S ≤ 4) (a1 : Option Addr) (n1 k1 : Nat) (a2 : Option Addr) (n2 k2 : Nat) (w : World) (h1 : RdE a.L (.slice a1 n1 k1) w) (h2 : RdE b.L (.slice a2 n2 k2) w) :
    Calls Try.prog 20 #[.agg #[.int .i64 a.S, .int .i64 a.T, .slice a1 n1 k1, .bool a.s], .agg #[.int .i64 b.S, .int .i64 b.T, .slice a2 n2 k2, .bool b.s]] w fun r w' => ∃ v, r = .returned (.tuple #[v, .int .i64 0]) ∧ OwnT w.heap.size (merTop a b) v w' ∧ Below w.heap.size w w' := by
  have hab := ha.bd
  have hbb := hb.bd
  have hal := ha.len
  have hbl := hb.len
  have h := pmer_any a.S a.T a.L a.s b.S b.T b.L b.s a1 n1 k1 a2 n2 k2 w hab.1.1 hab.1.2 hab.2.1 hab.2.2 hbb.1.1 hbb.1.2 hbb.2.1 hbb.2.2 h1 h2 (by omega)
  have e : merE ⟨a.S, a.T, a.L, a.s⟩ ⟨b.S, b.T, b.L, b.s⟩ = 0 := (ha.mer hb hw).2
  rw [e] at h
  exact h
theorem SkT.next {c : TP} {v : Value} {w : World} {o : Obj} (h : RdE c.L v w) : SkT (w.heap.size + 1) c v ((w.alloc o).alloc (.cells #[.int .i64 c.S, .int .i64 c.T, v, .bool c.s] 25)) := by
  have := SkT.new (c := c) (h.below (b1 o))
  rwa [show (w.alloc o).heap.size = w.heap.size + 1 by simp] at this
set_option maxRecDepth 100000 in
set_option maxHeartbeats 4000000 in
theorem topkCommutes_walk (S : Int) (al : Option Addr) (ln cap : Nat) (z : List Int) (bl : Option Addr) (lm cbp : Nat) (y : List Int) (W : World) (wa : (Lit.int .i64 S).wf = true) (w0 : InRow .i64 W al ln cap z) (w1 : InRow .i64 W bl lm cbp y) :
    Calls Try.prog 8 #[.int .i64 S, .slice al ln cap, .slice bl lm cbp] W fun e w' => e = .returned (.bool true) ∧ Below W.heap.size W w' := by
  obtain ⟨S0, S1⟩ := wf_bd wa
  have h1 := made_any S (z.take ln) _ W S0 S1 (inRow_rdJ w0)
  have HY := Lib.hid (inRow_rdJ w1)
  have H2 := Lib.hid (fun (w : World) (hb : Below W.heap.size W w) => made_any S (y.take lm) (.slice bl lm cbp) w S0 S1 (HY.out.below hb))
  obtain ⟨f, A, ha, hA⟩ := madeT_spc S (z.take ln)
  obtain ⟨g, B, hb, hB⟩ := madeT_spc S (y.take lm)
  generalize madeT S (z.take ln) = a at *
  generalize madeT S (y.take lm) = b at *
  have hsz : 1 ≤ 1 + S % 4 ∧ 1 + S % 4 ≤ 4 := by omega
  generalize 1 + S % 4 = sz at *
  have HM1 := Lib.hid (fun a1 n1 k1 a2 n2 k2 w h1 h2 => pmer_spc ha hb (by omega) hsz.2 a1 n1 k1 a2 n2 k2 w h1 h2)
  have HM2 := Lib.hid (fun a1 n1 k1 a2 n2 k2 w h1 h2 => pmer_spc hb ha (by omega) hsz.2 a1 n1 k1 a2 n2 k2 w h1 h2)
  have hz := Spc.new (S := sz) (by omega) (by omega)
  have hw1 := ha.w1
  have HM3 := Lib.hid (fun a1 n1 k1 a2 n2 k2 w h1 h2 => pmer_spc ha hz (by omega) hsz.2 a1 n1 k1 a2 n2 k2 w h1 h2)
  rw [← merTop_comm ha hb (by omega)] at HM2
  rw [merTop_new ha] at HM3
  have hml := (ha.mer hb (by omega)).1.len
  have hal := ha.len
  have hbd := ha.bd
  have H4 := Lib.hid (fun w => pnew_any a.S w hbd.1.1 hbd.1.2)
  have hE0 : newTE a.S = 0 := by rw [ha.hS]; unfold newTE; rw [if_neg (by omega)]
  rw [hE0, ha.hS] at H4
  have HAS : Hid (a.S = sz) := Lib.hid ha.hS
  rw [← HAS.out] at H4
  have H4' : Hid (∀ w, Calls Try.prog 14 #[.int .i64 a.S] w fun e w' => ∃ v, e = .returned (.tuple #[v, .int .i64 0]) ∧ OwnT w.heap.size (newT sz) v w' ∧ Below w.heap.size w w') := Lib.hid (fun w => by have := H4.out w; rw [HAS.out] at this ⊢; exact this)
  have HLa : Hid (a.L.length ≤ 4) := Lib.hid (by omega)
  have HLm : Hid ((merTop a b).L.length ≤ 4) := Lib.hid (by omega)
  generalize merTop a b = m at *
  generalize newT sz = z at *
  clear wa w0 w1 ha hb hA hB hz hw1 hml hal hbd hE0 H4 HY
  go_enter Try.func8, Try.ntmps8
  go_wp2_with (first
    | (go_at_call 10; (with_reducible refine (H2.out _ B2.out).mono ?_); rintro e w3 ⟨v3, B3v, rfl, ⟨a3, n3, c3, rfl, ho3⟩, hb3⟩; have A3 := Lib.hid ((SkT.new (R2.out.below hb3)).alloc (.cells #[.int .i64 b.S, .int .i64 b.T, .slice a3 n3 c3, .bool b.s] 25)); have C3 := Lib.hid (SkT.next (o := (.cells #[.int .i64 a.S, .int .i64 a.T, .slice a2 n2 c2, .bool a.s] 25)) ho3.rd); have B3 := Lib.hid (bal (bal (bgo B2.out hb3) (.cells #[.int .i64 a.S, .int .i64 a.T, .slice a2 n2 c2, .bool a.s] 25)) (.cells #[.int .i64 b.S, .int .i64 b.T, .slice a3 n3 c3, .bool b.s] 25)); clear ho3 hb3 R2 B2 H2; obtain ⟨p0, p1, p2, p3⟩ := A3.out.cells; obtain ⟨q0, q1, q2, q3⟩ := C3.out.cells)
    | (go_at_call 10; (with_reducible refine h1.mono ?_); rintro e w2 ⟨v2, B2v, rfl, ⟨a2, n2, c2, rfl, ho2⟩, hb2⟩; have R2 := Lib.hid ho2.rd; have B2 := Lib.hid hb2; clear h1 ho2 hb2)
    | (go_at_call 20; (with_reducible refine (HM1.out _ _ _ _ _ _ _ A3.out.rdE C3.out.rdE).mono ?_); rintro e w4 ⟨u, rfl, ⟨a4, n4, c4, rfl, ho4⟩, hb4⟩; have A4 := Lib.hid ((A3.out.go hb4).alloc (.cells #[.int .i64 m.S, .int .i64 m.T, .slice a4 n4 c4, .bool m.s] 25)); have C4 := Lib.hid ((C3.out.go hb4).alloc (.cells #[.int .i64 m.S, .int .i64 m.T, .slice a4 n4 c4, .bool m.s] 25)); have M4 := Lib.hid (SkT.new ho4.rd); have B4 := Lib.hid (bal (bgo B3.out hb4) (.cells #[.int .i64 m.S, .int .i64 m.T, .slice a4 n4 c4, .bool m.s] 25)); clear ho4 hb4 A3 C3 B3 p0 p1 p2 p3 q0 q1 q2 q3; obtain ⟨p0, p1, p2, p3⟩ := A4.out.cells; obtain ⟨q0, q1, q2, q3⟩ := C4.out.cells)
    | (go_at_call 20; (with_reducible refine (HM2.out _ _ _ _ _ _ _ C4.out.rdE A4.out.rdE).mono ?_); rintro e w5 ⟨u, rfl, ⟨a5, n5, c5, rfl, ho5⟩, hb5⟩; have A5 := Lib.hid ((A4.out.go hb5).alloc (.cells #[.int .i64 m.S, .int .i64 m.T, .slice a5 n5 c5, .bool m.s] 25)); have M5 := Lib.hid ((M4.out.go hb5).alloc (.cells #[.int .i64 m.S, .int .i64 m.T, .slice a5 n5 c5, .bool m.s] 25)); have N5 := Lib.hid (SkT.new ho5.rd); have B5 := Lib.hid (bal (bgo B4.out hb5) (.cells #[.int .i64 m.S, .int .i64 m.T, .slice a5 n5 c5, .bool m.s] 25)); clear ho5 hb5 A4 C4 M4 B4 p0 p1 p2 p3 q0 q1 q2 q3; obtain ⟨p0, p1, p2, p3⟩ := A5.out.cells)
    | (go_at_call 14; (with_reducible refine (H4'.out _).mono ?_); rintro e w6 ⟨u, rfl, ⟨a6, n6, c6, rfl, ho6⟩, hb6⟩; have A6 := Lib.hid ((A5.out.go hb6).alloc (.cells #[.int .i64 z.S, .int .i64 z.T, .slice a6 n6 c6, .bool z.s] 25)); have M6 := Lib.hid ((M5.out.go hb6).alloc (.cells #[.int .i64 z.S, .int .i64 z.T, .slice a6 n6 c6, .bool z.s] 25)); have N6 := Lib.hid ((N5.out.go hb6).alloc (.cells #[.int .i64 z.S, .int .i64 z.T, .slice a6 n6 c6, .bool z.s] 25)); have Z6 := Lib.hid (SkT.new ho6.rd); have B6 := Lib.hid (bal (bgo B5.out hb6) (.cells #[.int .i64 z.S, .int .i64 z.T, .slice a6 n6 c6, .bool z.s] 25)); clear ho6 hb6 A5 M5 N5 B5 p0 p1 p2 p3; obtain ⟨p0, p1, p2, p3⟩ := A6.out.cells; obtain ⟨q0, q1, q2, q3⟩ := Z6.out.cells)
    | (go_at_call 20; (with_reducible refine (HM3.out _ _ _ _ _ _ _ A6.out.rdE Z6.out.rdE).mono ?_); rintro e w7 ⟨u, rfl, ⟨a7, n7, c7, rfl, ho7⟩, hb7⟩; have A7 := Lib.hid ((A6.out.go hb7).alloc (.cells #[.int .i64 a.S, .int .i64 a.T, .slice a7 n7 c7, .bool a.s] 25)); have M7 := Lib.hid ((M6.out.go hb7).alloc (.cells #[.int .i64 a.S, .int .i64 a.T, .slice a7 n7 c7, .bool a.s] 25)); have N7 := Lib.hid ((N6.out.go hb7).alloc (.cells #[.int .i64 a.S, .int .i64 a.T, .slice a7 n7 c7, .bool a.s] 25)); have X7 := Lib.hid (SkT.new ho7.rd); have B7 := Lib.hid (bal (bgo B6.out hb7) (.cells #[.int .i64 a.S, .int .i64 a.T, .slice a7 n7 c7, .bool a.s] 25)); clear ho7 hb7 A6 M6 N6 Z6 B6 p0 p1 p2 p3 q0 q1 q2 q3; obtain ⟨p0, p1, p2, p3⟩ := M7.out.cells; obtain ⟨q0, q1, q2, q3⟩ := N7.out.cells)
    | (go_at_call 16; (with_reducible refine (sameT_any m _ _ _ M7.out.rd N7.out.rd (by have := HLm.out; omega)).mono ?_); rintro e w8 ⟨rfl, hb8⟩; have A8 := Lib.hid (A7.out.go hb8); have X8 := Lib.hid (X7.out.go hb8); have B8 := Lib.hid (bgo B7.out hb8); clear hb8 A7 M7 N7 X7 B7 p0 p1 p2 p3 q0 q1 q2 q3; obtain ⟨p0, p1, p2, p3⟩ := X8.out.cells; obtain ⟨q0, q1, q2, q3⟩ := A8.out.cells)
    | (go_at_call 16; (with_reducible refine (sameT_any a _ _ _ X8.out.rd A8.out.rd (by have := HLa.out; omega)).mono ?_); rintro e w9 ⟨rfl, hb9⟩; have B9 := Lib.hid (bgo B8.out hb9); clear hb9 A8 X8 B8 p0 p1 p2 p3 q0 q1 q2 q3)
    | (go_at_call 19; (with_reducible refine (known_any _).mono ?_); rintro e w10 ⟨rfl, hb10⟩; have BZ := Lib.hid (bgo B9.out hb10); clear hb10))
  go_ret
  exact ⟨rfl, BZ.out⟩
end Go.Proofs.Ytcmekpdgikploaa
