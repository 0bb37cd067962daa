/- The walk of the law FrequentCommutes. -/
import Derived.Test.YtmmdnomfpfcjiaaFqCom
import Derived.Test.YtmmdnomfpfcjiaaSkQ
import Derived.Test.YtmmdnomfpfcjiaaMadeQ
namespace Go.Proofs.Ytmmdnomfpfcjiaa
open Go.RowKit
set_option linter.unusedVariables false
set_option linter.unusedSimpArgs false
/-- The contract of a merge of valid summaries of one size. -/
theorem pmer_val {a b : FQ} (ha : ValQ a.S a.T a.K a.L) (hb : ValQ b.S b.T b.K b.L) (hS : a.S = b.S) (h4 : a.S ≤ 4) (a1 : Option Addr) (n1 k1 : Nat) (a2 : Option Addr) (n2 k2 : Nat) (w : World) (h1 : RdE a.L (.slice a1 n1 k1) w) (h2 : RdE b.L (.slice a2 n2 k2) w) :
    Calls Try.prog 19 #[.agg #[.int .i64 a.S, .int .i64 a.T, .int .i64 a.K, .slice a1 n1 k1, .bool a.s], .agg #[.int .i64 b.S, .int .i64 b.T, .int .i64 b.K, .slice a2 n2 k2, .bool b.s]] w fun r w' => ∃ v, r = .returned (.tuple #[v, .int .i64 0]) ∧ OwnQ w.heap.size (sumQ a b) v w' ∧ Below w.heap.size w w' := by
  have hal := ha.len
  have hbl := hb.len
  have h := pmerQ_any a b _ _ w ⟨_, _, _, rfl, h1⟩ ⟨_, _, _, rfl, h2⟩ (by omega) (OkQ.wf (.inl ha)) (OkQ.wf (.inl hb))
  rw [(merQ_of ha hb hS).1, (merQ_of ha hb hS).2] at h
  exact h
theorem madeQ_val (S : Int) (L : List Int) : ValQ (madeQ S L).S (madeQ S L).T (madeQ S L).K (madeQ S L).L ∧ (madeQ S L).S = 1 + S % 4 := by
  have hn := newQ_val (S := 1 + S % 4) (by omega) (by omega)
  unfold madeQ mdQ
  rw [hn.1]
  have key : ∀ (l : List Int) (c : FQ), ValQ c.S c.T c.K c.L → ValQ (l.foldl (fun c n => insQ c (keyS (n % 65536)) (wtS (n % 65536))) c).S (l.foldl (fun c n => insQ c (keyS (n % 65536)) (wtS (n % 65536))) c).T (l.foldl (fun c n => insQ c (keyS (n % 65536)) (wtS (n % 65536))) c).K (l.foldl (fun c n => insQ c (keyS (n % 65536)) (wtS (n % 65536))) c).L ∧ (l.foldl (fun c n => insQ c (keyS (n % 65536)) (wtS (n % 65536))) c).S = c.S := by
    intro l
    induction l with
    | nil => intro c h; exact ⟨h, rfl⟩
    | cons n l ih =>
      intro c h
      obtain ⟨-, -, h1, h2⟩ := insQ_val h (itemS (n % 65536))
      obtain ⟨h3, h4⟩ := ih _ h1
      exact ⟨h3, h4.trans h2⟩
  exact key _ _ hn.2.2
theorem SkQ.next {c : FQ} {v : Value} {w : World} {o : Obj} (h : RdE c.L v w) : SkQ (w.heap.size + 1) c v ((w.alloc o).alloc (.cells #[.int .i64 c.S, .int .i64 c.T, .int .i64 c.K, v, .bool c.s] 25)) := by
  have := SkQ.new (c := c) (h.below (b1 o))
  rwa [show (w.alloc o).heap.size = w.heap.size + 1 by simp] at this
set_option maxRecDepth 100000 in
set_option maxHeartbeats 4000000 in
theorem frequentCommutes_walk (S : Int) (al : Option Addr) (ln cap : Nat) (z : List Int) (bl : Option Addr) (lm cbp : Nat) (y : List Int) (W : World) (wa : (Lit.int .i64 S).wf = true) (w0 : InRow .i64 W al ln cap z) (w1 : InRow .i64 W bl lm cbp y) :
    Calls Try.prog 7 #[.int .i64 S, .slice al ln cap, .slice bl lm cbp] W fun e w' => e = .returned (.bool true) ∧ Below W.heap.size W w' := by
  obtain ⟨S0, S1⟩ := wf_bd wa
  have h1 := madeQ_any S (z.take ln) _ W S0 S1 (inRow_rdJ w0)
  have HY := Lib.hid (inRow_rdJ w1)
  have H2 := Lib.hid (fun (w : World) (hb : Below W.heap.size W w) => madeQ_any S (y.take lm) (.slice bl lm cbp) w S0 S1 (HY.out.below hb))
  obtain ⟨ha, hA⟩ := madeQ_val S (z.take ln)
  obtain ⟨hb, hB⟩ := madeQ_val S (y.take lm)
  generalize madeQ S (z.take ln) = a at *
  generalize madeQ S (y.take lm) = b at *
  have hS : a.S = b.S := hA.trans hB.symm
  have hsz : 1 ≤ a.S ∧ a.S ≤ 4 := by omega
  have HM1 := Lib.hid (fun a1 n1 k1 a2 n2 k2 w h1 h2 => pmer_val ha hb hS hsz.2 a1 n1 k1 a2 n2 k2 w h1 h2)
  have HM2 := Lib.hid (fun a1 n1 k1 a2 n2 k2 w h1 h2 => pmer_val hb ha hS.symm (by omega) a1 n1 k1 a2 n2 k2 w h1 h2)
  obtain ⟨hn1, hn2, hn3⟩ := newQ_val (S := a.S) hsz.1 (by omega)
  have HM3 := Lib.hid (fun a1 n1 k1 a2 n2 k2 w h1 h2 => pmer_val (b := ⟨a.S, 0, 0, [], false⟩) ha hn3 rfl hsz.2 a1 n1 k1 a2 n2 k2 w h1 h2)
  rw [← sumQ_comm hS] at HM2
  rw [sumQ_new ha] at HM3
  have hml := (ha.sum' hb hS).len
  have hms : (sumQ a b).S = a.S := rfl
  have hal := ha.len
  have H4 := Lib.hid (fun w => pnewQ_any a.S w)
  rw [hn2, hn1] at H4
  have HLa : Hid (a.L.length ≤ 4) := Lib.hid (by omega)
  have HLm : Hid ((sumQ a b).L.length ≤ 4) := Lib.hid (by omega)
  generalize sumQ a b = m at *
  have H4' : Hid (∀ w, Calls Try.prog 13 #[.int .i64 a.S] w fun e w' => ∃ v, e = .returned (.tuple #[v, .int .i64 0]) ∧ OwnQ w.heap.size (⟨a.S, 0, 0, [], false⟩ : FQ) v w' ∧ Below w.heap.size w w') := H4
  generalize (⟨a.S, 0, 0, [], false⟩ : FQ) = z at *
  clear wa w0 w1 ha hb hA hB hS hsz hn1 hn2 hn3 hml hms hal H4 HY
  go_enter Try.func7, Try.ntmps7
  go_wp2_with (first
    | (go_at_call 9; (with_reducible refine (H2.out _ B2.out).mono ?_); rintro e w3 ⟨v3, B3v, rfl, ⟨a3, n3, c3, rfl, ho3⟩, hb3⟩; have A3 := Lib.hid ((SkQ.new (R2.out.below hb3)).alloc (.cells #[.int .i64 b.S, .int .i64 b.T, .int .i64 b.K, .slice a3 n3 c3, .bool b.s] 25)); have C3 := Lib.hid (SkQ.next (o := (.cells #[.int .i64 a.S, .int .i64 a.T, .int .i64 a.K, .slice a2 n2 c2, .bool a.s] 25)) ho3.rd); have B3 := Lib.hid (bal (bal (bgo B2.out hb3) (.cells #[.int .i64 a.S, .int .i64 a.T, .int .i64 a.K, .slice a2 n2 c2, .bool a.s] 25)) (.cells #[.int .i64 b.S, .int .i64 b.T, .int .i64 b.K, .slice a3 n3 c3, .bool b.s] 25)); clear ho3 hb3 R2 B2 H2; obtain ⟨p0, p1, p2, p3, p4⟩ := A3.out.cells; obtain ⟨q0, q1, q2, q3, q4⟩ := C3.out.cells)
    | (go_at_call 9; (with_reducible refine h1.mono ?_); rintro e w2 ⟨v2, B2v, rfl, ⟨a2, n2, c2, rfl, ho2⟩, hb2⟩; have R2 := Lib.hid ho2.rd; have B2 := Lib.hid hb2; clear h1 ho2 hb2)
    | (go_at_call 19; (with_reducible refine (HM1.out _ _ _ _ _ _ _ A3.out.rdE C3.out.rdE).mono ?_); rintro e w4 ⟨u, rfl, ⟨a4, n4, c4, rfl, ho4⟩, hb4⟩; have A4 := Lib.hid ((A3.out.go hb4).alloc (.cells #[.int .i64 m.S, .int .i64 m.T, .int .i64 m.K, .slice a4 n4 c4, .bool m.s] 25)); have C4 := Lib.hid ((C3.out.go hb4).alloc (.cells #[.int .i64 m.S, .int .i64 m.T, .int .i64 m.K, .slice a4 n4 c4, .bool m.s] 25)); have M4 := Lib.hid (SkQ.new ho4.rd); have B4 := Lib.hid (bal (bgo B3.out hb4) (.cells #[.int .i64 m.S, .int .i64 m.T, .int .i64 m.K, .slice a4 n4 c4, .bool m.s] 25)); clear ho4 hb4 A3 C3 B3 p0 p1 p2 p3 p4 q0 q1 q2 q3 q4; obtain ⟨p0, p1, p2, p3, p4⟩ := A4.out.cells; obtain ⟨q0, q1, q2, q3, q4⟩ := C4.out.cells)
    | (go_at_call 19; (with_reducible refine (HM2.out _ _ _ _ _ _ _ C4.out.rdE A4.out.rdE).mono ?_); rintro e w5 ⟨u, rfl, ⟨a5, n5, c5, rfl, ho5⟩, hb5⟩; have A5 := Lib.hid ((A4.out.go hb5).alloc (.cells #[.int .i64 m.S, .int .i64 m.T, .int .i64 m.K, .slice a5 n5 c5, .bool m.s] 25)); have M5 := Lib.hid ((M4.out.go hb5).alloc (.cells #[.int .i64 m.S, .int .i64 m.T, .int .i64 m.K, .slice a5 n5 c5, .bool m.s] 25)); have N5 := Lib.hid (SkQ.new ho5.rd); have B5 := Lib.hid (bal (bgo B4.out hb5) (.cells #[.int .i64 m.S, .int .i64 m.T, .int .i64 m.K, .slice a5 n5 c5, .bool m.s] 25)); clear ho5 hb5 A4 C4 M4 B4 p0 p1 p2 p3 p4 q0 q1 q2 q3 q4; obtain ⟨p0, p1, p2, p3, p4⟩ := A5.out.cells)
    | (go_at_call 13; (with_reducible refine (H4'.out _).mono ?_); rintro e w6 ⟨u, rfl, ⟨a6, n6, c6, rfl, ho6⟩, hb6⟩; have A6 := Lib.hid ((A5.out.go hb6).alloc (.cells #[.int .i64 z.S, .int .i64 z.T, .int .i64 z.K, .slice a6 n6 c6, .bool z.s] 25)); have M6 := Lib.hid ((M5.out.go hb6).alloc (.cells #[.int .i64 z.S, .int .i64 z.T, .int .i64 z.K, .slice a6 n6 c6, .bool z.s] 25)); have N6 := Lib.hid ((N5.out.go hb6).alloc (.cells #[.int .i64 z.S, .int .i64 z.T, .int .i64 z.K, .slice a6 n6 c6, .bool z.s] 25)); have Z6 := Lib.hid (SkQ.new ho6.rd); have B6 := Lib.hid (bal (bgo B5.out hb6) (.cells #[.int .i64 z.S, .int .i64 z.T, .int .i64 z.K, .slice a6 n6 c6, .bool z.s] 25)); clear ho6 hb6 A5 M5 N5 B5 p0 p1 p2 p3 p4; obtain ⟨p0, p1, p2, p3, p4⟩ := A6.out.cells; obtain ⟨q0, q1, q2, q3, q4⟩ := Z6.out.cells)
    | (go_at_call 19; (with_reducible refine (HM3.out _ _ _ _ _ _ _ A6.out.rdE Z6.out.rdE).mono ?_); rintro e w7 ⟨u, rfl, ⟨a7, n7, c7, rfl, ho7⟩, hb7⟩; have A7 := Lib.hid ((A6.out.go hb7).alloc (.cells #[.int .i64 a.S, .int .i64 a.T, .int .i64 a.K, .slice a7 n7 c7, .bool a.s] 25)); have M7 := Lib.hid ((M6.out.go hb7).alloc (.cells #[.int .i64 a.S, .int .i64 a.T, .int .i64 a.K, .slice a7 n7 c7, .bool a.s] 25)); have N7 := Lib.hid ((N6.out.go hb7).alloc (.cells #[.int .i64 a.S, .int .i64 a.T, .int .i64 a.K, .slice a7 n7 c7, .bool a.s] 25)); have X7 := Lib.hid (SkQ.new ho7.rd); have B7 := Lib.hid (bal (bgo B6.out hb7) (.cells #[.int .i64 a.S, .int .i64 a.T, .int .i64 a.K, .slice a7 n7 c7, .bool a.s] 25)); clear ho7 hb7 A6 M6 N6 Z6 B6 p0 p1 p2 p3 p4 q0 q1 q2 q3 q4; obtain ⟨p0, p1, p2, p3, p4⟩ := M7.out.cells; obtain ⟨q0, q1, q2, q3, q4⟩ := N7.out.cells)
    | (go_at_call 15; (with_reducible refine (sameQ_any m _ _ _ M7.out.rd N7.out.rd (by have := HLm.out; omega)).mono ?_); rintro e w8 ⟨rfl, hb8⟩; have A8 := Lib.hid (A7.out.go hb8); have X8 := Lib.hid (X7.out.go hb8); have B8 := Lib.hid (bgo B7.out hb8); clear hb8 A7 M7 N7 X7 B7 p0 p1 p2 p3 p4 q0 q1 q2 q3 q4; obtain ⟨p0, p1, p2, p3, p4⟩ := X8.out.cells; obtain ⟨q0, q1, q2, q3, q4⟩ := A8.out.cells)
    | (go_at_call 15; (with_reducible refine (sameQ_any a _ _ _ X8.out.rd A8.out.rd (by have := HLa.out; omega)).mono ?_); rintro e w9 ⟨rfl, hb9⟩; have B9 := Lib.hid (bgo B8.out hb9); clear hb9 A8 X8 B8 p0 p1 p2 p3 p4 q0 q1 q2 q3 q4)
    | (go_at_call 18; (with_reducible refine (knownQ_any _).mono ?_); rintro e w10 ⟨rfl, hb10⟩; have BZ := Lib.hid (bgo B9.out hb10); clear hb10))
  go_ret
  exact ⟨rfl, BZ.out⟩
end Go.Proofs.Ytmmdnomfpfcjiaa
