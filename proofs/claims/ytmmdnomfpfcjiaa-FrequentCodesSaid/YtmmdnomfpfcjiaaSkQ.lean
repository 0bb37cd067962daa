/- A summary in a struct of the call's own, as the laws' walks keep it; two equal summaries; the document's example. -/
import Derived.Test.YtmmdnomfpfcjiaaFqMer
import Derived.Test.YtmmdnomfpfcjiaaFqV
namespace Go.Proofs.Ytmmdnomfpfcjiaa
open Go.RowKit
set_option linter.unusedVariables false
set_option linter.unusedSimpArgs false
/-- A summary lies in block g, its entries can be read. -/
def SkQ (g : Nat) (c : FQ) (v : Value) (w : World) : Prop := FqS g c.S c.T c.K v c.s w ∧ RdE c.L v w
theorem SkQ.rdE {g : Nat} {c : FQ} {v : Value} {w : World} (h : SkQ g c v w) : RdE c.L v w := h.2
theorem SkQ.new {c : FQ} {v : Value} {w : World} (h : RdE c.L v w) : SkQ w.heap.size c v (w.alloc (.cells #[.int .i64 c.S, .int .i64 c.T, .int .i64 c.K, v, .bool c.s] 25)) :=
  ⟨FqS.new _ _ _ _ _ _ _, h.below (b1 _)⟩
theorem SkQ.go {g : Nat} {c : FQ} {v : Value} {w w' : World} (h : SkQ g c v w) (hb : Below w.heap.size w w') : SkQ g c v w' := ⟨h.1.below hb h.1.lt, h.2.below hb⟩
theorem SkQ.alloc {g : Nat} {c : FQ} {v : Value} {w : World} (h : SkQ g c v w) (o : Obj) : SkQ g c v (w.alloc o) := h.go (b1 o)
theorem SkQ.lt {g : Nat} {c : FQ} {v : Value} {w : World} (h : SkQ g c v w) : g < w.heap.size := h.1.lt
theorem SkQ.cells {g : Nat} {c : FQ} {v : Value} {w : World} (h : SkQ g c v w) : w.cell? ⟨g, 0, none⟩ = some (.int .i64 c.S) ∧ w.cell? ⟨g, 1, none⟩ = some (.int .i64 c.T) ∧ w.cell? ⟨g, 2, none⟩ = some (.int .i64 c.K) ∧ w.cell? ⟨g, 3, none⟩ = some v ∧ w.cell? ⟨g, 4, none⟩ = some (.bool c.s) := h.1.1
theorem SkQ.rd {g : Nat} {c : FQ} {a : Option Addr} {n cap : Nat} {w : World} (h : SkQ g c (.slice a n cap) w) : RdQ c (.agg #[.int .i64 c.S, .int .i64 c.T, .int .i64 c.K, .slice a n cap, .bool c.s]) w := ⟨a, n, cap, rfl, h.2⟩
theorem cell_ltQ {w : World} {g o : Nat} {v : Value} (h : w.cell? ⟨g, o, none⟩ = some v) : g < w.heap.size := by
  unfold World.cell? at h
  cases hb : w.heap[g]? with
  | none => simp [hb] at h
  | some o => exact (Array.getElem?_eq_some_iff.1 hb).1
/-- Five cells of an older block. -/
theorem five_below {g : Nat} {w w' : World} {a b c d e : Value} (hb : Below w.heap.size w w') (h : w.cell? ⟨g, 0, none⟩ = some a ∧ w.cell? ⟨g, 1, none⟩ = some b ∧ w.cell? ⟨g, 2, none⟩ = some c ∧ w.cell? ⟨g, 3, none⟩ = some d ∧ w.cell? ⟨g, 4, none⟩ = some e) :
    w'.cell? ⟨g, 0, none⟩ = some a ∧ w'.cell? ⟨g, 1, none⟩ = some b ∧ w'.cell? ⟨g, 2, none⟩ = some c ∧ w'.cell? ⟨g, 3, none⟩ = some d ∧ w'.cell? ⟨g, 4, none⟩ = some e := by
  have l : g < w.heap.size := cell_ltQ h.1
  have f : ∀ j, w'.cell? ⟨g, j, none⟩ = w.cell? ⟨g, j, none⟩ := fun j => hb.cell (p := ⟨g, j, none⟩) l
  exact ⟨(f _).trans h.1, (f _).trans h.2.1, (f _).trans h.2.2.1, (f _).trans h.2.2.2.1, (f _).trans h.2.2.2.2⟩
/-- A struct of two cells: an item. -/
def Two (g : Nat) (K : ByteArray) (y : Int) (w : World) : Prop := w.cell? ⟨g, 0, none⟩ = some (.string K) ∧ w.cell? ⟨g, 1, none⟩ = some (.int .i64 y) ∧ g < w.heap.size
theorem Two.new (w : World) (K : ByteArray) (y : Int) (t : TypeId) : Two w.heap.size K y (w.alloc (.cells #[.string K, .int .i64 y] t)) := ⟨by go_simp, by go_simp, by simp⟩
theorem Two.below {g : Nat} {K : ByteArray} {y : Int} {w w' : World} (h : Two g K y w) (hb : Below w.heap.size w w') : Two g K y w' :=
  ⟨(hb.cell (p := ⟨g, 0, none⟩) h.2.2).trans h.1, (hb.cell (p := ⟨g, 1, none⟩) h.2.2).trans h.2.1, Nat.lt_of_lt_of_le h.2.2 hb.size⟩
theorem startQ {c : FQ} {a : Option Addr} {n cap : Nat} {w : World} (h : RdE c.L (.slice a n cap) w) (K : ByteArray) (y : Int) :
    SkQ w.heap.size c (.slice a n cap) ((w.alloc (.cells #[.int .i64 c.S, .int .i64 c.T, .int .i64 c.K, .slice a n cap, .bool c.s] 25)).alloc (.cells #[.string K, .int .i64 y] 29)) ∧ Two (w.heap.size + 1) K y ((w.alloc (.cells #[.int .i64 c.S, .int .i64 c.T, .int .i64 c.K, .slice a n cap, .bool c.s] 25)).alloc (.cells #[.string K, .int .i64 y] 29)) ∧ Below w.heap.size w ((w.alloc (.cells #[.int .i64 c.S, .int .i64 c.T, .int .i64 c.K, .slice a n cap, .bool c.s] 25)).alloc (.cells #[.string K, .int .i64 y] 29)) := by
  refine ⟨(SkQ.new h).alloc _, ?_, b2 _ _⟩
  have := Two.new (w.alloc (.cells #[.int .i64 c.S, .int .i64 c.T, .int .i64 c.K, .slice a n cap, .bool c.s] 25)) K y 29
  rwa [show (w.alloc (.cells #[.int .i64 c.S, .int .i64 c.T, .int .i64 c.K, .slice a n cap, .bool c.s] 25)).heap.size = w.heap.size + 1 by simp] at this
set_option maxRecDepth 100000 in
set_option maxHeartbeats 1000000 in
theorem sameE_any (L : List Ent) (v u : Value) (w : World) (hv : RdE L v w) (hu : RdE L u w) (hn : L.length ≤ 549755813888) :
    Calls Try.prog 36 #[v, u] w fun e w' => e = .returned (.bool true) ∧ Below w.heap.size w w' := by
  obtain ⟨a, cap, rfl⟩ := hv.shape
  obtain ⟨a2, cap2, rfl⟩ := hu.shape
  have HR := Lib.hid hv
  have HU := Lib.hid hu
  clear hv hu
  go_enter Try.func36, Try.ntmps36
  go_wp2
  go_loopw [5] (fun i wr => ∃ j : Nat, j ≤ L.length ∧ i = .int .i64 (j : Int) ∧ Hid (Below w.heap.size w wr)) (fun i _ => L.length - (intOf i).toNat)
  case atStart => exact ⟨0, by omega, rfl, Lib.hid (Below.refl _ _)⟩
  case round =>
    obtain ⟨j, hj, rfl, HI⟩ := hrel
    by_cases hlt : j < L.length
    · have hlt2 : (j : Int) < (L.length : Int) := by omega
      obtain ⟨-, a1, cap1, he1, -, -, hc1⟩ := HR.out.below HI.out
      simp only [Value.slice.injEq, true_and] at he1
      obtain ⟨rfl, rfl⟩ := he1
      obtain ⟨b, off, rfl, hb, hcell⟩ := hc1 (by omega)
      obtain ⟨c0, c1, c2⟩ := hcell j hlt
      obtain ⟨-, a3, cap3, he3, -, -, hc3⟩ := HU.out.below HI.out
      simp only [Value.slice.injEq, true_and] at he3
      obtain ⟨rfl, rfl⟩ := he3
      obtain ⟨b3, off3, rfl, hb3, hcell3⟩ := hc3 (by omega)
      obtain ⟨d0, d1, d2⟩ := hcell3 j hlt
      clear hc1 hcell hc3 hcell3
      generalize L.getD j Ent.z = X at *
      go_wp2
      go_quiet (fail)
      go_wp2
      exact ⟨⟨j + 1, by omega, by go_num, Lib.hid (below_drewN HI.out _)⟩, by simp [intOf]; omega⟩
    · obtain rfl : j = L.length := by omega
      go_wp2
      go_ret
      exact ⟨rfl, HI.out⟩
set_option maxRecDepth 100000 in
theorem sameQ_any (t : FQ) (v u : Value) (w : World) (hv : RdQ t v w) (hu : RdQ t u w) (hn : t.L.length ≤ 549755813888) :
    Calls Try.prog 15 #[v, u] w fun e w' => e = .returned (.bool true) ∧ Below w.heap.size w w' := by
  obtain ⟨S, T, K, L, s⟩ := t
  obtain ⟨a, n, cap, rfl, hR⟩ := hv
  obtain ⟨a2, n2, cap2, rfl, hR2⟩ := hu
  dsimp only at hR hR2 hn ⊢
  have hs := Lib.hid (sameE_any L (.slice a n cap) (.slice a2 n2 cap2) ((w.alloc (.cells #[.int .i64 S, .int .i64 T, .int .i64 K, .slice a n cap, .bool s] 25)).alloc (.cells #[.int .i64 S, .int .i64 T, .int .i64 K, .slice a2 n2 cap2, .bool s] 25)) (hR.below (b2 _ _)) (hR2.below (b2 _ _)) hn)
  clear hR hR2
  go_enter Try.func15, Try.ntmps15
  go_wp2_with (go_at_call 36; refine hs.out.mono ?_; rintro e w2 ⟨rfl, hb2⟩; have B2 := Lib.hid (bgo (b2 _ _) hb2); clear hb2)
  go_ret
  exact ⟨rfl, B2.out⟩
theorem sameABQ : sameK ⟨#[97]⟩ ⟨#[98]⟩ = false := by
  unfold sameK
  rw [Lib.toList_data, Lib.toList_data]
  rfl
theorem iQ1 : itemE (byt ⟨#[97]⟩) 2 = 0 := by decide +kernel
theorem iQ2 : itemE (byt ⟨#[98]⟩) 1 = 0 := by decide +kernel
theorem iQ3 : itemE (byt ⟨#[98]⟩) 3 = 0 := by decide +kernel
theorem vQ0 : ValQ 1 0 0 [] := ValQ.mk' (by decide) (by decide) (by decide) (by decide) (by decide) (by decide) (by decide) (fun z hz => by cases hz) List.Pairwise.nil
theorem vQ1 {c T K : Int} (t0 : 0 ≤ T) (t1 : T ≤ 1099511627776) (k0 : 0 ≤ K) (k1 : K ≤ 1099511627776) (c0 : 1 ≤ c) (c1 : c ≤ 1099511627776) : ValQ 1 T K [⟨⟨#[97]⟩, c, 0⟩] := by
  refine ValQ.mk' (by decide) (by decide) t0 t1 k0 k1 (by simp) (fun z hz => ?_) (AscK.one _)
  rw [List.mem_singleton] at hz
  subst hz
  exact entQ_of (show keyB (byt ⟨#[97]⟩) = true by decide +kernel) c0 c1 rfl
theorem insQ_at {S T K : Int} {L : List Ent} {s : Bool} {k : ByteArray} {x : Int} (h : ValQ S T K L) (hi : itemE (byt k) x = 0) : insQE ⟨S, T, K, L, s⟩ k x = 0 ∧ insQ ⟨S, T, K, L, s⟩ k x = sumQ ⟨S, T, K, L, s⟩ (oneQ S k x) := by
  have e : insQE ⟨S, T, K, L, s⟩ k x = 0 := by
    unfold insQE
    dsimp only
    rw [valQ_of h, if_neg (by decide), hi]
  refine ⟨e, ?_⟩
  unfold insQ
  rw [e, if_neg (by decide)]
theorem kQ1 : insQ ⟨1, 0, 0, [], false⟩ ⟨#[97]⟩ 2 = ⟨1, 2, 0, [⟨⟨#[97]⟩, 2, 0⟩], false⟩ := by
  rw [(insQ_at vQ0 iQ1).2, insQ_room vQ0 (by decide) (by simp [hasK]) (by decide)]
  kernel_rfl
theorem kQ2 : insQ ⟨1, 2, 0, [⟨⟨#[97]⟩, 2, 0⟩], false⟩ ⟨#[98]⟩ 1 = ⟨1, 3, 1, [⟨⟨#[97]⟩, 1, 0⟩], false⟩ := by
  have hv := vQ1 (c := 2) (T := 2) (K := 0) (by decide) (by decide) (by decide) (by decide) (by decide) (by decide)
  have hn : hasK [⟨⟨#[97]⟩, 2, 0⟩] ⟨#[98]⟩ = false := by simp [hasK, sameABQ]
  have e := insQ_full (s := false) (x := 1) hv (by decide) hn (by decide)
  refine (insQ_at hv iQ2).2.trans (e.trans ?_)
  kernel_rfl
theorem kQ3 : insQ ⟨1, 3, 1, [⟨⟨#[97]⟩, 1, 0⟩], false⟩ ⟨#[98]⟩ 3 = ⟨1, 6, 2, [⟨⟨#[98]⟩, 2, 0⟩], false⟩ := by
  have hv := vQ1 (c := 1) (T := 3) (K := 1) (by decide) (by decide) (by decide) (by decide) (by decide) (by decide)
  have hn : hasK [⟨⟨#[97]⟩, 1, 0⟩] ⟨#[98]⟩ = false := by simp [hasK, sameABQ]
  have e := insQ_full (s := false) (x := 3) hv (by decide) hn (by decide)
  refine (insQ_at hv iQ3).2.trans (e.trans ?_)
  kernel_rfl
theorem cQ0 (w : World) : Calls Try.prog 13 #[.int .i64 1] w fun e w' => ∃ a n c, e = .returned (.tuple #[.agg #[.int .i64 1, .int .i64 0, .int .i64 0, .slice a n c, .bool false], .int .i64 0]) ∧ OwnE w.heap.size [] (.slice a n c) w' ∧ Below w.heap.size w w' :=
  (pnewQ_any 1 w).mono fun e w' ⟨v, h1, ⟨a, n, c, h2, h3⟩, h4⟩ => ⟨a, n, c, by rw [h1, h2]; kernel_rfl, h3, h4⟩
theorem cQ (t : FQ) (k : ByteArray) (x : Int) (d : FQ) (hd : insQ t k x = d) (he : insQE t k x = 0) (wt : WfQ t) (x0 : -9223372036854775808 ≤ x) (x1 : x ≤ 9223372036854775807) (hk : k.size ≤ maxLen) (hl : t.L.length ≤ 11) (a : Option Addr) (n c : Nat) (w : World) (h : RdE t.L (.slice a n c) w) :
    Calls Try.prog 11 #[.agg #[.int .i64 t.S, .int .i64 t.T, .int .i64 t.K, .slice a n c, .bool t.s], .agg #[.string k, .int .i64 x]] w fun e w' =>
      ∃ a n c, e = .returned (.tuple #[.agg #[.int .i64 d.S, .int .i64 d.T, .int .i64 d.K, .slice a n c, .bool d.s], .int .i64 0]) ∧ OwnE w.heap.size d.L (.slice a n c) w' ∧ Below w.heap.size w w' :=
  (pinsQ_any t k x _ w ⟨a, n, c, rfl, h⟩ wt x0 x1 hk hl).mono fun e w' ⟨v, h1, ⟨a, n, c, h2, h3⟩, h4⟩ => ⟨a, n, c, by rw [h1, h2, he, hd], by rw [← hd]; exact h3, h4⟩
theorem OwnE.lone {B : Nat} {x : Ent} {a : Option Addr} {n c : Nat} {w : World} (h : OwnE B [x] (.slice a n c) w) : ∃ g, a = some ⟨g, 0, none⟩ ∧ n = 1 ∧ At3 x g 0 w ∧ g < w.heap.size := by
  obtain ⟨g, rfl, -, hg, hn, -, -⟩ := h.block (by simp)
  obtain rfl : n = 1 := hn
  have := h.cellsAt (j := 0) (by simp)
  exact ⟨g, rfl, rfl, this, hg⟩
set_option maxRecDepth 100000 in
set_option maxHeartbeats 2000000 in
theorem knownQ_any (w : World) : Calls Try.prog 18 #[] w fun e w' => e = .returned (.bool true) ∧ Below w.heap.size w w' := by
  have i1 := (insQ_at (s := false) vQ0 iQ1).1
  have i2 := (insQ_at (s := false) (vQ1 (c := 2) (T := 2) (K := 0) (by decide) (by decide) (by decide) (by decide) (by decide) (by decide)) iQ2).1
  have i3 := (insQ_at (s := false) (vQ1 (c := 1) (T := 3) (K := 1) (by decide) (by decide) (by decide) (by decide) (by decide) (by decide)) iQ3).1
  have h1 := Lib.hid (cQ ⟨1, 0, 0, [], false⟩ ⟨#[97]⟩ 2 _ kQ1 i1 ⟨by decide, by decide, by decide⟩ (by decide) (by decide) (by decide) (by decide))
  have h2 := Lib.hid (cQ ⟨1, 2, 0, [⟨⟨#[97]⟩, 2, 0⟩], false⟩ ⟨#[98]⟩ 1 _ kQ2 i2 ⟨by decide, by decide, by decide⟩ (by decide) (by decide) (by decide) (by decide))
  have h3 := Lib.hid (cQ ⟨1, 3, 1, [⟨⟨#[97]⟩, 1, 0⟩], false⟩ ⟨#[98]⟩ 3 _ kQ3 i3 ⟨by decide, by decide, by decide⟩ (by decide) (by decide) (by decide) (by decide))
  clear i1 i2 i3
  go_enter Try.func18, Try.ntmps18
  go_wp2_with (first
    | (go_at_call 13; refine (cQ0 _).mono ?_; rintro e w2 ⟨a2, n2, k2, rfl, ho2, hb2⟩; have O2 := Lib.hid (ho2.rd.below (b1 (.cells #[.int .i64 1, .int .i64 0, .int .i64 0, .slice a2 n2 k2, .bool false] 25))); have B2 := Lib.hid (bal hb2 (.cells #[.int .i64 1, .int .i64 0, .int .i64 0, .slice a2 n2 k2, .bool false] 25)); clear ho2 hb2)
    | (go_at_call 11; refine (h1.out _ _ _ _ O2.out).mono ?_; rintro e w3 ⟨a3, n3, k3, rfl, ho3, hb3⟩; have O3 := Lib.hid (ho3.rd.below (b1 (.cells #[.int .i64 1, .int .i64 2, .int .i64 0, .slice a3 n3 k3, .bool false] 25))); have B3 := Lib.hid (bal (bgo B2.out hb3) (.cells #[.int .i64 1, .int .i64 2, .int .i64 0, .slice a3 n3 k3, .bool false] 25)); clear ho3 hb3 h1 O2 B2)
    | (go_at_call 11; refine (h2.out _ _ _ _ O3.out).mono ?_; rintro e w4 ⟨a4, n4, k4, rfl, ho4, hb4⟩; have O4 := Lib.hid (ho4.rd.below (b1 (.cells #[.int .i64 1, .int .i64 3, .int .i64 1, .slice a4 n4 k4, .bool false] 25))); have B4 := Lib.hid (bal (bgo B3.out hb4) (.cells #[.int .i64 1, .int .i64 3, .int .i64 1, .slice a4 n4 k4, .bool false] 25)); obtain ⟨g4, rfl, rfl, hat4, hl4⟩ := ho4.lone; have T4 := Lib.hid (FqS.new 1 3 1 (.slice (some ⟨g4, 0, none⟩) 1 k4) false 25 w4); have A4 := Lib.hid (hat4.go (b1 (.cells #[.int .i64 1, .int .i64 3, .int .i64 1, .slice (some ⟨g4, 0, none⟩) 1 k4, .bool false] 25))); clear ho4 hb4 h2 O3 B3 hat4 hl4)
    | (go_at_call 11; refine (h3.out _ _ _ _ O4.out).mono ?_; rintro e w5 ⟨a5, n5, k5, rfl, ho5, hb5⟩; obtain ⟨g5, rfl, rfl, hat5, hl5⟩ := ho5.lone; have B5 := Lib.hid (bal (bgo B4.out hb5) (.cells #[.int .i64 1, .int .i64 6, .int .i64 2, .slice (some ⟨g5, 0, none⟩) 1 k5, .bool false] 25)); have T5 := Lib.hid (FqS.new 1 6 2 (.slice (some ⟨g5, 0, none⟩) 1 k5) false 25 w5); have A5 := Lib.hid (hat5.go (b1 (.cells #[.int .i64 1, .int .i64 6, .int .i64 2, .slice (some ⟨g5, 0, none⟩) 1 k5, .bool false] 25))); have T6 := Lib.hid ((T4.out.go hb5).go (b1 (.cells #[.int .i64 1, .int .i64 6, .int .i64 2, .slice (some ⟨g5, 0, none⟩) 1 k5, .bool false] 25))); have A6 := Lib.hid ((A4.out.go hb5).go (b1 (.cells #[.int .i64 1, .int .i64 6, .int .i64 2, .slice (some ⟨g5, 0, none⟩) 1 k5, .bool false] 25))); obtain ⟨⟨t0, t1, t2, t3, t4⟩, -⟩ := T6.out; obtain ⟨⟨s0, s1, s2, s3, s4⟩, -⟩ := T5.out; obtain ⟨x0, x1, x2⟩ := A6.out.zero; obtain ⟨z0, z1, z2⟩ := A5.out.zero; clear ho5 hb5 h3 O4 B4 hat5 hl5 T4 A4))
  go_ret
  exact ⟨rfl, B5.out⟩
end Go.Proofs.Ytmmdnomfpfcjiaa
