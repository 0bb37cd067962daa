/- The walk of the law CountminEstimates. -/
import Derived.Test.YtlbbmnjhohfbkaaCmPure
import Derived.Test.YtlbbmnjhohfbkaaMade7
import Derived.Test.YtlbbmnjhohfbkaaSpoil7
import Derived.Test.YtlbbmnjhohfbkaaCmKnown
import Derived.Test.YtlbbmnjhohfbkaaCmEst
import Derived.Test.YtlbbmnjhohfbkaaRCmEst
import Derived.Test.YtlbbmnjhohfbkaaSkAt
import Derived.Deep.RegionHeld3
namespace Go.Proofs.Ytlbbmnjhohfbkaa
open Go.RowKit
set_option linter.unusedVariables false
set_option linter.unusedSimpArgs false
set_option maxRecDepth 100000 in
set_option maxHeartbeats 4000000 in
theorem countminEstimates_walk (a b s : Int) (al : Option Addr) (ln cap : Nat) (z : List Int) (n : Int) (k : ByteArray) (W : World) (wa : (Lit.int .i64 a).wf = true) (wb : (Lit.int .i64 b).wf = true) (ws : (Lit.int .i64 s).wf = true) (w0 : InRow .i64 W al ln cap z) (wn : (Lit.int .i64 n).wf = true) (wk : k.size ≤ maxLen) :
    Calls Try.prog 6 #[.int .i64 a, .int .i64 b, .int .i64 s, .slice al ln cap, .int .i64 n, .string k] W fun e w' => e = .returned (.bool true) ∧ Below W.heap.size W w' := by
  have h9 := fun w => known_any w
  have hkl : (k.size : Int) ≤ 9223372036854775807 := by unfold maxLen at wk; omega
  by_cases hl : (100 : Int) < (k.size : Int)
  · clear wa wb ws wn w0
    go_enter Try.func6, Try.ntmps6
    go_wp2_with (go_at_call 10; refine (known_any _).mono ?_; rintro e w2 ⟨rfl, hb2⟩)
    go_ret
    exact ⟨rfl, hb2⟩
  · have hl2 : (k.size : Int) ≤ 100 := by omega
    obtain ⟨s0, s1⟩ := wf_bd ws
    obtain ⟨n0, n1⟩ := wf_bd wn
    have hx := wrap_bd s
    have h1 := made_any a b s (z.take ln) _ W s0 s1 (inRow_rdJ w0)
    have hm := Lib.hid (up_ok a b (IntKind.u64.wrap s) ((z.take ln).take 7) hx.1 hx.2)
    unfold madeC at h1
    generalize mdUp (newC (1 + a % 4) (1 + b % 8) (IntKind.u64.wrap s)) ((z.take ln).take 7) = cm at *
    have h2 := fun (v : Value) (w : World) (hv : RdC cm v w) => spoil_any cm v n w hm.out.1 hv hm.out.2.1 hm.out.2.2 n0 n1
    have h3 := fun w => key_any (n / 256) w (by omega) (by omega)
    have hks := keyS_bd (n / 256)
    have hKs : (keyS (n / 256)).size ≤ maxLen := by unfold maxLen; omega
    generalize keyS (n / 256) = K at *
    clear wa wb ws wn w0 hks hx hl
    go_enter Try.func6, Try.ntmps6
    go_wp2_with (first
      | (go_at_call 17; (with_reducible refine h1.mono ?_); rintro e w2 ⟨v2, rfl, hr2, hb2⟩; have O2 := Lib.hid hr2; have B2 := Lib.hid hb2; clear h1 hr2 hb2)
      | (go_at_call 16; (with_reducible refine (h2 _ _ O2.out).mono ?_); rintro e w3 ⟨c, v3, rfl, hwc, ⟨a3, n3, c3, rfl, ho3⟩, hb3⟩; have HWc := Lib.hid hwc; have S3 := Lib.hid (SkAt.new ho3 26); have B3 := Lib.hid (bal (bgo B2.out hb3) (.cells #[.int .i64 c.D, .int .i64 c.S, .int .u64 c.x, .slice a3 n3 c3, .bool c.s] 26)); clear h2 hwc ho3 hb3 B2 O2 hm; have f1 := (fun (w : World) (k' : ByteArray) (hk' : k'.size ≤ maxLen) (hb : Below (w3.alloc (.cells #[.int .i64 c.D, .int .i64 c.S, .int .u64 c.x, .slice a3 n3 c3, .bool c.s] 26)).heap.size (w3.alloc (.cells #[.int .i64 c.D, .int .i64 c.S, .int .u64 c.x, .slice a3 n3 c3, .bool c.s] 26)) w) => cest_any c _ k' w HWc.out (S3.out.below hb).rd hk'); have f2 := (fun (w : World) (k' : ByteArray) (hk' : k'.size ≤ maxLen) (hb : Below (w3.alloc (.cells #[.int .i64 c.D, .int .i64 c.S, .int .u64 c.x, .slice a3 n3 c3, .bool c.s] 26)).heap.size (w3.alloc (.cells #[.int .i64 c.D, .int .i64 c.S, .int .u64 c.x, .slice a3 n3 c3, .bool c.s] 26)) w) => rcest_any c _ k' w HWc.out (S3.out.below hb).rd hk'); have T3 := Lib.hid (HoldC.of S3.out (Below.refl _ _)))
      | (go_at_call 25; (with_reducible refine (f1 _ _ wk T3.out.bel).mono ?_); rintro e w4 ⟨rfl, hb4⟩; have T4 := Lib.hid (T3.out.below hb4); clear hb4; obtain ⟨p, p0, p1, p2, p3, p4⟩ := T4.out; clear p)
      | (go_at_call 26; (with_reducible refine (f2 _ _ wk T4.out.bel).mono ?_); rintro e w5 ⟨rfl, hb5⟩; have T5 := Lib.hid (T4.out.below hb5); clear hb5 p0 p1 p2 p3 p4; obtain ⟨p, p0, p1, p2, p3, p4⟩ := T5.out; clear p))
    generalize (w3.alloc (.cells #[.int .i64 c.D, .int .i64 c.S, .int .u64 c.x, .slice a3 n3 c3, .bool c.s] 26)) = X at *
    have F1 := Lib.hid (fun (w : World) (hb : Below X.heap.size X w ∧ w.cell? ⟨w3.heap.size, 0, none⟩ = some (.int .i64 c.D) ∧ w.cell? ⟨w3.heap.size, 1, none⟩ = some (.int .i64 c.S) ∧ w.cell? ⟨w3.heap.size, 2, none⟩ = some (.int .u64 c.x) ∧ w.cell? ⟨w3.heap.size, 3, none⟩ = some (.slice a3 n3 c3) ∧ w.cell? ⟨w3.heap.size, 4, none⟩ = some (.bool c.s)) => f1 w K hKs hb.1)
    have F2 := Lib.hid (fun (w : World) (hb : Below X.heap.size X w ∧ w.cell? ⟨w3.heap.size, 0, none⟩ = some (.int .i64 c.D) ∧ w.cell? ⟨w3.heap.size, 1, none⟩ = some (.int .i64 c.S) ∧ w.cell? ⟨w3.heap.size, 2, none⟩ = some (.int .u64 c.x) ∧ w.cell? ⟨w3.heap.size, 3, none⟩ = some (.slice a3 n3 c3) ∧ w.cell? ⟨w3.heap.size, 4, none⟩ = some (.bool c.s)) => f2 w K hKs hb.1)
    have F3 := Lib.hid h3
    have SB : Hid (∀ w u : World, (Below X.heap.size X w ∧ w.cell? ⟨w3.heap.size, 0, none⟩ = some (.int .i64 c.D) ∧ w.cell? ⟨w3.heap.size, 1, none⟩ = some (.int .i64 c.S) ∧ w.cell? ⟨w3.heap.size, 2, none⟩ = some (.int .u64 c.x) ∧ w.cell? ⟨w3.heap.size, 3, none⟩ = some (.slice a3 n3 c3) ∧ w.cell? ⟨w3.heap.size, 4, none⟩ = some (.bool c.s)) → Below w.heap.size w u → (Below X.heap.size X u ∧ u.cell? ⟨w3.heap.size, 0, none⟩ = some (.int .i64 c.D) ∧ u.cell? ⟨w3.heap.size, 1, none⟩ = some (.int .i64 c.S) ∧ u.cell? ⟨w3.heap.size, 2, none⟩ = some (.int .u64 c.x) ∧ u.cell? ⟨w3.heap.size, 3, none⟩ = some (.slice a3 n3 c3) ∧ u.cell? ⟨w3.heap.size, 4, none⟩ = some (.bool c.s))) := Lib.hid (fun w u h hb => HoldC.below (X := X) (g := w3.heap.size) (c := c) (v := .slice a3 n3 c3) h hb)
    have S5 : Below X.heap.size X w5 ∧ w5.cell? ⟨w3.heap.size, 0, none⟩ = some (.int .i64 c.D) ∧ w5.cell? ⟨w3.heap.size, 1, none⟩ = some (.int .i64 c.S) ∧ w5.cell? ⟨w3.heap.size, 2, none⟩ = some (.int .u64 c.x) ∧ w5.cell? ⟨w3.heap.size, 3, none⟩ = some (.slice a3 n3 c3) ∧ w5.cell? ⟨w3.heap.size, 4, none⟩ = some (.bool c.s) := T5.out
    have S5' : Below X.heap.size X w5.drew ∧ w5.drew.cell? ⟨w3.heap.size, 0, none⟩ = some (.int .i64 c.D) ∧ w5.drew.cell? ⟨w3.heap.size, 1, none⟩ = some (.int .i64 c.S) ∧ w5.drew.cell? ⟨w3.heap.size, 2, none⟩ = some (.int .u64 c.x) ∧ w5.drew.cell? ⟨w3.heap.size, 3, none⟩ = some (.slice a3 n3 c3) ∧ w5.drew.cell? ⟨w3.heap.size, 4, none⟩ = some (.bool c.s) := ⟨S5.1.drew, S5.2⟩
    have HB := Lib.hid (B3.out)
    clear f1 f2 h3 B3 T3 T4 T5 S3 p0 p1 p2 p3 p4 HWc
    go_region_held3 (fun w' => Below X.heap.size X w' ∧ w'.cell? ⟨w3.heap.size, 0, none⟩ = some (.int .i64 c.D) ∧ w'.cell? ⟨w3.heap.size, 1, none⟩ = some (.int .i64 c.S) ∧ w'.cell? ⟨w3.heap.size, 2, none⟩ = some (.int .u64 c.x) ∧ w'.cell? ⟨w3.heap.size, 3, none⟩ = some (.slice a3 n3 c3) ∧ w'.cell? ⟨w3.heap.size, 4, none⟩ = some (.bool c.s)) (first | assumption) (first
      | (go_at_call 27; ((with_reducible refine (F3.out _).mono ?_); rintro e wk ⟨rfl, hbl⟩; have SK := SB.out _ wk (by assumption) hbl; clear hbl))
      | (go_at_call 25; ((with_reducible refine (F1.out _ (by assumption)).mono ?_); rintro e w6 ⟨rfl, hbl⟩; have S6 := SB.out _ w6 (by assumption) hbl; clear hbl)))
    have S6' : Below X.heap.size X w6.drew ∧ w6.drew.cell? ⟨w3.heap.size, 0, none⟩ = some (.int .i64 c.D) ∧ w6.drew.cell? ⟨w3.heap.size, 1, none⟩ = some (.int .i64 c.S) ∧ w6.drew.cell? ⟨w3.heap.size, 2, none⟩ = some (.int .u64 c.x) ∧ w6.drew.cell? ⟨w3.heap.size, 3, none⟩ = some (.slice a3 n3 c3) ∧ w6.drew.cell? ⟨w3.heap.size, 4, none⟩ = some (.bool c.s) := ⟨S6.1.drew, S6.2⟩
    go_wp2
    go_region_held3 (fun w' => Below X.heap.size X w' ∧ w'.cell? ⟨w3.heap.size, 0, none⟩ = some (.int .i64 c.D) ∧ w'.cell? ⟨w3.heap.size, 1, none⟩ = some (.int .i64 c.S) ∧ w'.cell? ⟨w3.heap.size, 2, none⟩ = some (.int .u64 c.x) ∧ w'.cell? ⟨w3.heap.size, 3, none⟩ = some (.slice a3 n3 c3) ∧ w'.cell? ⟨w3.heap.size, 4, none⟩ = some (.bool c.s)) (first | assumption) (first
      | (go_at_call 27; ((with_reducible refine (F3.out _).mono ?_); rintro e wl ⟨rfl, hbl⟩; have SL := SB.out _ wl (by assumption) hbl; clear hbl))
      | (go_at_call 26; ((with_reducible refine (F2.out _ (by assumption)).mono ?_); rintro e w7 ⟨rfl, hbl⟩; have S7 := SB.out _ w7 (by assumption) hbl; clear hbl)))
    have B7 := Lib.hid (bgo HB.out S7.1)
    go_wp2_with (go_at_call 10; ((with_reducible refine (known_any _).mono ?_); rintro e w' ⟨rfl, hbl⟩; have BZ := Lib.hid (bgo B7.out hbl)))
    go_ret
    exact ⟨rfl, BZ.out⟩
end Go.Proofs.Ytlbbmnjhohfbkaa
