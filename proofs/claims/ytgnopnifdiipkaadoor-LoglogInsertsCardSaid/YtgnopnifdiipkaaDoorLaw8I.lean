/- The walk of the law LoglogInserts. -/
import Derived.Test.YtgnopnifdiipkaaDoorLPIns
import Derived.Test.YtgnopnifdiipkaaDoorLlPure
import Derived.Test.YtgnopnifdiipkaaDoorMade8
import Derived.Test.YtgnopnifdiipkaaDoorSpoil8
import Derived.Test.YtgnopnifdiipkaaDoorKnown8
import Derived.Test.YtgnopnifdiipkaaDoorSameL
import Derived.Test.YtgnopnifdiipkaaDoorSkL
import Derived.Deep.RegionHeld3
namespace Go.Proofs.YtgnopnifdiipkaaDoor
open Go.RowKit
set_option linter.unusedVariables false
set_option linter.unusedSimpArgs false
/-- A struct of two cells: an item. -/
def Two (g : Nat) (K : ByteArray) (y : Int) (w : World) : Prop := w.cell? ⟨g, 0, none⟩ = some (.string K) ∧ w.cell? ⟨g, 1, none⟩ = some (.int .i64 y) ∧ g < w.heap.size
theorem Two.new (w : World) (K : ByteArray) (y : Int) (t : TypeId) : Two w.heap.size K y (w.alloc (.cells #[.string K, .int .i64 y] t)) := ⟨by go_simp, by go_simp, by simp⟩
theorem Two.below {g : Nat} {K : ByteArray} {y : Int} {w w' : World} (h : Two g K y w) (hb : Below w.heap.size w w') : Two g K y w' :=
  ⟨(hb.cell (p := ⟨g, 0, none⟩) h.2.2).trans h.1, (hb.cell (p := ⟨g, 1, none⟩) h.2.2).trans h.2.1, Nat.lt_of_lt_of_le h.2.2 hb.size⟩
theorem start7 {c : LL} {a : Option Addr} {n cap : Nat} {w : World} (h : RdI c.L (.slice a n cap) w) (K : ByteArray) (y : Int) (t t' : TypeId) :
    SkL w.heap.size c (.slice a n cap) ((w.alloc (.cells #[.int .i64 c.P, .int .u64 c.x, .slice a n cap] t)).alloc (.cells #[.string K, .int .i64 y] t')) ∧ Two (w.heap.size + 1) K y ((w.alloc (.cells #[.int .i64 c.P, .int .u64 c.x, .slice a n cap] t)).alloc (.cells #[.string K, .int .i64 y] t')) ∧ Below w.heap.size w ((w.alloc (.cells #[.int .i64 c.P, .int .u64 c.x, .slice a n cap] t)).alloc (.cells #[.string K, .int .i64 y] t')) := by
  refine ⟨(SkL.new h t).alloc _, ?_, b2 _ _⟩
  have := Two.new (w.alloc (.cells #[.int .i64 c.P, .int .u64 c.x, .slice a n cap] t)) K y t'
  rwa [show (w.alloc (.cells #[.int .i64 c.P, .int .u64 c.x, .slice a n cap] t)).heap.size = w.heap.size + 1 by simp] at this
/-- Three sketches in blocks, and all that lay in X. -/
def HoldM (X : World) (g g5 g6 : Nat) (c d : LL) (v3 v5 v6 : Value) (w' : World) : Prop := Below X.heap.size X w' ∧ w'.cell? ⟨g, 0, none⟩ = some (.int .i64 c.P) ∧ w'.cell? ⟨g, 1, none⟩ = some (.int .u64 c.x) ∧ w'.cell? ⟨g, 2, none⟩ = some (v3) ∧ w'.cell? ⟨g5, 0, none⟩ = some (.int .i64 d.P) ∧ w'.cell? ⟨g5, 1, none⟩ = some (.int .u64 d.x) ∧ w'.cell? ⟨g5, 2, none⟩ = some (v5) ∧ w'.cell? ⟨g6, 0, none⟩ = some (.int .i64 d.P) ∧ w'.cell? ⟨g6, 1, none⟩ = some (.int .u64 d.x) ∧ w'.cell? ⟨g6, 2, none⟩ = some (v6)
theorem HoldM.below {X : World} {g g5 g6 : Nat} {c d : LL} {v3 v5 v6 : Value} {w w' : World} (h : HoldM X g g5 g6 c d v3 v5 v6 w) (hb : Below w.heap.size w w') : HoldM X g g5 g6 c d v3 v5 v6 w' := by
  obtain ⟨h, p0, p1, p2, q0, q1, q2, r0, r1, r2⟩ := h
  have l1 : g < w.heap.size := block_lt_of_cell p0
  have l2 : g5 < w.heap.size := block_lt_of_cell q0
  have l3 : g6 < w.heap.size := block_lt_of_cell r0
  have f : ∀ b j, b < w.heap.size → w'.cell? ⟨b, j, none⟩ = w.cell? ⟨b, j, none⟩ := fun b j hk => hb.cell (p := ⟨b, j, none⟩) hk
  exact ⟨bgo h hb, (f _ _ l1).trans p0, (f _ _ l1).trans p1, (f _ _ l1).trans p2, (f _ _ l2).trans q0, (f _ _ l2).trans q1, (f _ _ l2).trans q2, (f _ _ l3).trans r0, (f _ _ l3).trans r1, (f _ _ l3).trans r2⟩
theorem HoldM.of {X : World} {g g5 g6 : Nat} {c d : LL} {v3 v5 v6 : Value} (h : SkL g c v3 X) (h5 : SkL g5 d v5 X) (h6 : SkL g6 d v6 X) : HoldM X g g5 g6 c d v3 v5 v6 X := by
  obtain ⟨⟨⟨p0, p1, p2⟩, _⟩, _⟩ := h
  obtain ⟨⟨⟨q0, q1, q2⟩, _⟩, _⟩ := h5
  obtain ⟨⟨⟨r0, r1, r2⟩, _⟩, _⟩ := h6
  exact ⟨Below.refl _ _, p0, p1, p2, q0, q1, q2, r0, r1, r2⟩
theorem HoldM.drew {X : World} {g g5 g6 : Nat} {c d : LL} {v3 v5 v6 : Value} {w : World} (h : HoldM X g g5 g6 c d v3 v5 v6 w) : HoldM X g g5 g6 c d v3 v5 v6 w.drew := ⟨h.1.drew, h.2⟩
theorem HoldM.bel {X : World} {g g5 g6 : Nat} {c d : LL} {v3 v5 v6 : Value} {w : World} (h : HoldM X g g5 g6 c d v3 v5 v6 w) : Below X.heap.size X w := h.1
set_option maxRecDepth 100000 in
set_option maxHeartbeats 4000000 in
theorem loglogInserts_walk (a s : Int) (al : Option Addr) (ln cap : Nat) (z : List Int) (n : Int) (W : World) (wa : (Lit.int .i64 a).wf = true) (ws : (Lit.int .i64 s).wf = true) (w0 : InRow .i64 W al ln cap z) (wn : (Lit.int .i64 n).wf = true) (ht : TabF W) :
    Calls Tryd.prog 4 #[.int .i64 a, .int .i64 s, .slice al ln cap, .int .i64 n] W fun e w' => e = .returned (.bool true) ∧ Below W.heap.size W w' := by
  have HT := Lib.hid ht
  clear ht
  obtain ⟨s0, s1⟩ := wf_bd ws
  obtain ⟨n0, n1⟩ := wf_bd wn
  have hx := wrap_bd s
  have h1 := made_any a s (z.take ln) _ W s0 s1 (inRow_rdJ w0)
  have hm := Lib.hid (upL_ok a (IntKind.u64.wrap s) ((z.take ln).take 9) hx.1 hx.2)
  unfold madeL at h1
  generalize ldUp (newL (2 + a % 4) (IntKind.u64.wrap s)) ((z.take ln).take 9) = cm at *
  have h2 := fun (v : Value) (w : World) (hv : RdL cm v w) => spoil_any cm v n w hm.out.1 hv hm.out.2.1 hm.out.2.2.1 hm.out.2.2.2.1 hm.out.2.2.2.2 n0 n1
  have m1 := mask16 (n / 256)
  have m2 := mask4 (n / 16777216)
  have e1 : 0 ≤ n / 256 % 65536 ∧ n / 256 % 65536 ≤ 65535 := by omega
  have e2 : 0 ≤ n / 16777216 % 16 ∧ n / 16777216 % 16 ≤ 15 := by omega
  have h3 := fun w => bitem_any (n / 256 % 65536) w (by omega) (by omega)
  have hks := keyS_bd (n / 256 % 65536)
  have hKs : (keyS (n / 256 % 65536)).size ≤ maxLen := by unfold maxLen; omega
  have hwt := wtS_bd (n / 256 % 65536)
  generalize keyS (n / 256 % 65536) = K at *
  generalize wtS (n / 256 % 65536) = x at *
  generalize n / 256 % 65536 = p at *
  generalize n / 16777216 % 16 = q at *
  clear wa ws wn w0 hks hx
  go_enter Tryd.func4, Tryd.ntmps4
  go_wp2_with (first
    | (go_at_call 17; (with_reducible refine h1.mono ?_); rintro e w2 ⟨v2, rfl, hr2, hb2⟩; have O2 := Lib.hid hr2; have B2 := Lib.hid hb2; clear h1 hr2 hb2)
    | (go_at_call 16; (with_reducible refine (h2 _ _ O2.out).mono ?_); rintro e w3 ⟨c, v3, rfl, hwc, ⟨a3, n3, c3, rfl, ho3⟩, hb3⟩; have HWc := Lib.hid hwc; have O3 := Lib.hid ho3; have B3 := Lib.hid (bgo B2.out hb3); clear h2 hwc ho3 hb3 B2 O2 hm)
    | (go_at_call 18; (with_reducible refine (h3 _).mono ?_); rintro e w4 ⟨rfl, hb4⟩; have O4 := Lib.hid (O3.out.below hb4); have B4 := Lib.hid (bgo B3.out hb4); obtain ⟨za1, za2, za3⟩ := start7 O4.out K x 26 37; obtain ⟨zb1, zb2, zb3⟩ := start7 O4.out ⟨#[]⟩ x 26 37; have ZA := Lib.hid za1; have ZB := Lib.hid zb1; have TA := Lib.hid za2; have TB := Lib.hid zb2; have BA := Lib.hid (bgo B4.out za3); have BB := Lib.hid (bgo B4.out zb3); clear h3 hb4 O3 B3 O4 B4 za1 za2 za3 zb1 zb2 zb3)
    | (go_at_call 19; (first
        | ((with_reducible refine (lins_any c _ K x _ HWc.out ZA.out.rd hKs (by omega) (by omega)).mono ?_); rintro e w5 ⟨v5, rfl, ⟨a5, n5, c5, rfl, ho5⟩, hb5⟩; have h4 := (fun (w : World) (v : Value) (hv : RdL c v w) => rlins_any c v K x w HWc.out hv hKs (by omega) (by omega)); generalize llIns c K x = d at *; generalize llInsE c K x = E at *; have S5 := Lib.hid ((ZA.out.below hb5).alloc (.cells #[.int .i64 d.P, .int .u64 d.x, .slice a5 n5 c5] 26)); have T5 := Lib.hid ((TA.out.below hb5).below (b1 (.cells #[.int .i64 d.P, .int .u64 d.x, .slice a5 n5 c5] 26))); have B5 := Lib.hid (bal (bgo BA.out hb5) (.cells #[.int .i64 d.P, .int .u64 d.x, .slice a5 n5 c5] 26)))
        | ((with_reducible refine (lins_any c _ ⟨#[]⟩ x _ HWc.out ZB.out.rd (by decide) (by omega) (by omega)).mono ?_); rintro e w5 ⟨v5, rfl, ⟨a5, n5, c5, rfl, ho5⟩, hb5⟩; have h4 := (fun (w : World) (v : Value) (hv : RdL c v w) => rlins_any c v ⟨#[]⟩ x w HWc.out hv (by decide) (by omega) (by omega)); generalize llIns c ⟨#[]⟩ x = d at *; generalize llInsE c ⟨#[]⟩ x = E at *; have S5 := Lib.hid ((ZB.out.below hb5).alloc (.cells #[.int .i64 d.P, .int .u64 d.x, .slice a5 n5 c5] 26)); have T5 := Lib.hid ((TB.out.below hb5).below (b1 (.cells #[.int .i64 d.P, .int .u64 d.x, .slice a5 n5 c5] 26))); have B5 := Lib.hid (bal (bgo BB.out hb5) (.cells #[.int .i64 d.P, .int .u64 d.x, .slice a5 n5 c5] 26)))); have D5 := Lib.hid (SkL.new ho5.rd 26); obtain ⟨⟨⟨p0, p1, p2⟩, -⟩, -⟩ := S5.out; obtain ⟨t0, t1, -⟩ := T5.out; clear ZA ZB TA TB BA BB ho5 hb5)
    | (go_at_call 20; (with_reducible refine (h4 _ _ S5.out.rd).mono ?_); rintro e w6 ⟨v6, rfl, ⟨a6, n6, c6, rfl, ho6⟩, hb6⟩; have S6 := Lib.hid ((S5.out.below hb6).alloc (.cells #[.int .i64 d.P, .int .u64 d.x, .slice a6 n6 c6] 26)); have D6 := Lib.hid ((D5.out.below hb6).alloc (.cells #[.int .i64 d.P, .int .u64 d.x, .slice a6 n6 c6] 26)); have E6 := Lib.hid (SkL.new ho6.rd 26); have B6 := Lib.hid (bal (bgo B5.out hb6) (.cells #[.int .i64 d.P, .int .u64 d.x, .slice a6 n6 c6] 26)); clear h4 ho6 hb6 S5 D5 T5 B5 p0 p1 p2 t0 t1))
  all_goals
    generalize w6.alloc (.cells #[.int .i64 d.P, .int .u64 d.x, .slice a6 n6 c6] 26) = X at *
    have HV := Lib.hid HWc.out
    have v1 := Lib.hid (fun (w : World) (hb : Below X.heap.size X w ∧ w.cell? ⟨w4.heap.size, 0, none⟩ = some (.int .i64 c.P) ∧ w.cell? ⟨w4.heap.size, 1, none⟩ = some (.int .u64 c.x) ∧ w.cell? ⟨w4.heap.size, 2, none⟩ = some (.slice a3 n3 c3) ∧ w.cell? ⟨w5.heap.size, 0, none⟩ = some (.int .i64 d.P) ∧ w.cell? ⟨w5.heap.size, 1, none⟩ = some (.int .u64 d.x) ∧ w.cell? ⟨w5.heap.size, 2, none⟩ = some (.slice a5 n5 c5) ∧ w.cell? ⟨w6.heap.size, 0, none⟩ = some (.int .i64 d.P) ∧ w.cell? ⟨w6.heap.size, 1, none⟩ = some (.int .u64 d.x) ∧ w.cell? ⟨w6.heap.size, 2, none⟩ = some (.slice a6 n6 c6)) => lval_any c.P c.x c.L a3 n3 c3 w (S6.out.2.1.below hb.1))
    have v2 := Lib.hid (fun (w : World) (hb : Below X.heap.size X w ∧ w.cell? ⟨w4.heap.size, 0, none⟩ = some (.int .i64 c.P) ∧ w.cell? ⟨w4.heap.size, 1, none⟩ = some (.int .u64 c.x) ∧ w.cell? ⟨w4.heap.size, 2, none⟩ = some (.slice a3 n3 c3) ∧ w.cell? ⟨w5.heap.size, 0, none⟩ = some (.int .i64 d.P) ∧ w.cell? ⟨w5.heap.size, 1, none⟩ = some (.int .u64 d.x) ∧ w.cell? ⟨w5.heap.size, 2, none⟩ = some (.slice a5 n5 c5) ∧ w.cell? ⟨w6.heap.size, 0, none⟩ = some (.int .i64 d.P) ∧ w.cell? ⟨w6.heap.size, 1, none⟩ = some (.int .u64 d.x) ∧ w.cell? ⟨w6.heap.size, 2, none⟩ = some (.slice a6 n6 c6)) => rlval_any c.P c.x c.L a3 n3 c3 w (S6.out.2.1.below hb.1))
    have HS := Lib.hid (fun (w : World) (hb : Below X.heap.size X w ∧ w.cell? ⟨w4.heap.size, 0, none⟩ = some (.int .i64 c.P) ∧ w.cell? ⟨w4.heap.size, 1, none⟩ = some (.int .u64 c.x) ∧ w.cell? ⟨w4.heap.size, 2, none⟩ = some (.slice a3 n3 c3) ∧ w.cell? ⟨w5.heap.size, 0, none⟩ = some (.int .i64 d.P) ∧ w.cell? ⟨w5.heap.size, 1, none⟩ = some (.int .u64 d.x) ∧ w.cell? ⟨w5.heap.size, 2, none⟩ = some (.slice a5 n5 c5) ∧ w.cell? ⟨w6.heap.size, 0, none⟩ = some (.int .i64 d.P) ∧ w.cell? ⟨w6.heap.size, 1, none⟩ = some (.int .u64 d.x) ∧ w.cell? ⟨w6.heap.size, 2, none⟩ = some (.slice a6 n6 c6)) => sameL_any d _ _ w (D6.out.below hb.1).rd (E6.out.below hb.1).rd)
    have SB : Hid (∀ w u : World, (Below X.heap.size X w ∧ w.cell? ⟨w4.heap.size, 0, none⟩ = some (.int .i64 c.P) ∧ w.cell? ⟨w4.heap.size, 1, none⟩ = some (.int .u64 c.x) ∧ w.cell? ⟨w4.heap.size, 2, none⟩ = some (.slice a3 n3 c3) ∧ w.cell? ⟨w5.heap.size, 0, none⟩ = some (.int .i64 d.P) ∧ w.cell? ⟨w5.heap.size, 1, none⟩ = some (.int .u64 d.x) ∧ w.cell? ⟨w5.heap.size, 2, none⟩ = some (.slice a5 n5 c5) ∧ w.cell? ⟨w6.heap.size, 0, none⟩ = some (.int .i64 d.P) ∧ w.cell? ⟨w6.heap.size, 1, none⟩ = some (.int .u64 d.x) ∧ w.cell? ⟨w6.heap.size, 2, none⟩ = some (.slice a6 n6 c6)) → Below w.heap.size w u → (Below X.heap.size X u ∧ u.cell? ⟨w4.heap.size, 0, none⟩ = some (.int .i64 c.P) ∧ u.cell? ⟨w4.heap.size, 1, none⟩ = some (.int .u64 c.x) ∧ u.cell? ⟨w4.heap.size, 2, none⟩ = some (.slice a3 n3 c3) ∧ u.cell? ⟨w5.heap.size, 0, none⟩ = some (.int .i64 d.P) ∧ u.cell? ⟨w5.heap.size, 1, none⟩ = some (.int .u64 d.x) ∧ u.cell? ⟨w5.heap.size, 2, none⟩ = some (.slice a5 n5 c5) ∧ u.cell? ⟨w6.heap.size, 0, none⟩ = some (.int .i64 d.P) ∧ u.cell? ⟨w6.heap.size, 1, none⟩ = some (.int .u64 d.x) ∧ u.cell? ⟨w6.heap.size, 2, none⟩ = some (.slice a6 n6 c6))) := Lib.hid (fun w u h hb => HoldM.below (X := X) (g := w4.heap.size) (g5 := w5.heap.size) (g6 := w6.heap.size) (c := c) (d := d) (v3 := .slice a3 n3 c3) (v5 := .slice a5 n5 c5) (v6 := .slice a6 n6 c6) h hb)
    have HKN := Lib.hid (fun (w : World) (hb : Below X.heap.size X w ∧ w.cell? ⟨w4.heap.size, 0, none⟩ = some (.int .i64 c.P) ∧ w.cell? ⟨w4.heap.size, 1, none⟩ = some (.int .u64 c.x) ∧ w.cell? ⟨w4.heap.size, 2, none⟩ = some (.slice a3 n3 c3) ∧ w.cell? ⟨w5.heap.size, 0, none⟩ = some (.int .i64 d.P) ∧ w.cell? ⟨w5.heap.size, 1, none⟩ = some (.int .u64 d.x) ∧ w.cell? ⟨w5.heap.size, 2, none⟩ = some (.slice a5 n5 c5) ∧ w.cell? ⟨w6.heap.size, 0, none⟩ = some (.int .i64 d.P) ∧ w.cell? ⟨w6.heap.size, 1, none⟩ = some (.int .u64 d.x) ∧ w.cell? ⟨w6.heap.size, 2, none⟩ = some (.slice a6 n6 c6)) => known_any w (HT.out.below (bgo B6.out hb.1)))
    have HH := Lib.hid (HoldM.of S6.out D6.out E6.out)
    clear HWc HV
    have SX := S6.out; clear SX
    obtain ⟨-, p0, p1, p2, q0, q1, q2, r0, r1, r2⟩ := HH.out
    go_region_held3 (fun w' => Below X.heap.size X w' ∧ w'.cell? ⟨w4.heap.size, 0, none⟩ = some (.int .i64 c.P) ∧ w'.cell? ⟨w4.heap.size, 1, none⟩ = some (.int .u64 c.x) ∧ w'.cell? ⟨w4.heap.size, 2, none⟩ = some (.slice a3 n3 c3) ∧ w'.cell? ⟨w5.heap.size, 0, none⟩ = some (.int .i64 d.P) ∧ w'.cell? ⟨w5.heap.size, 1, none⟩ = some (.int .u64 d.x) ∧ w'.cell? ⟨w5.heap.size, 2, none⟩ = some (.slice a5 n5 c5) ∧ w'.cell? ⟨w6.heap.size, 0, none⟩ = some (.int .i64 d.P) ∧ w'.cell? ⟨w6.heap.size, 1, none⟩ = some (.int .u64 d.x) ∧ w'.cell? ⟨w6.heap.size, 2, none⟩ = some (.slice a6 n6 c6)) (first | assumption | exact ⟨(Below.refl _ _).drew, p0, p1, p2, q0, q1, q2, r0, r1, r2⟩) (first
      | (go_at_call 15; ((with_reducible refine (HS.out _ (by assumption)).mono ?_); rintro e w' ⟨rfl, hbl⟩; have S1 := SB.out _ w' (by assumption) hbl; clear hbl))
      | (go_at_call 21; ((with_reducible refine (v1.out _ (by assumption)).mono ?_); rintro e w' ⟨rfl, hbl⟩; have S1 := SB.out _ w' (by assumption) hbl; clear hbl))
      | (go_at_call 22; ((with_reducible refine (v2.out _ (by assumption)).mono ?_); rintro e w' ⟨rfl, hbl⟩; have S1 := SB.out _ w' (by assumption) hbl; clear hbl))
      | (go_at_call 10; ((with_reducible refine (HKN.out _ (by assumption)).mono ?_); rintro e w' ⟨rfl, hbl⟩; have S1 := SB.out _ w' (by assumption) hbl; clear hbl)))
    go_wp2
    go_ret
    rename_i hS
    exact ⟨rfl, bgo B6.out hS.1⟩
end Go.Proofs.YtgnopnifdiipkaaDoor
