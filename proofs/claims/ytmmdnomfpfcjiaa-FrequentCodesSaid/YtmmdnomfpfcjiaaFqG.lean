/- The contracts of slices.Grow of a nil slice and slices.Concat of three slices of entries; l[k:] under one name. -/
import Derived.Test.YtmmdnomfpfcjiaaFqA
import Derived.Lib.AppendZeros
import Derived.Lib.SliceRun
namespace Go.Proofs.Ytmmdnomfpfcjiaa
open Go.RowKit
set_option linter.unusedVariables false
set_option linter.unusedSimpArgs false
/-- What l[k:] is. -/
def tlE : Value → Nat → Value
  | .slice a n c, k => .slice (if c = k then a else a.map (·.add (k * 3))) (n - k) (c - k)
  | v, _ => v
theorem tlE_run {L : List Ent} {v : Value} {w : World} (h : RdE L v w) (k : Nat) (hk : k ≤ L.length) (hn : L.length ≤ 549755813888) (w' : World) : (Instr.slice 23 v (some (.int .i64 (k : Int))) none none).run Try.prog w' = .ok (tlE v k) w' := by
  obtain ⟨hy, a, cap, rfl, h1, h2, h3⟩ := h
  have ht : Try.prog.underlying 23 = some (.slice (Try.prog.elem 23)) := by simp [Program.elem, Try.underlying23]
  have he : Try.prog.elem 23 = 49 := by simp [Program.elem, Try.underlying23]
  rw [run_slice_l w' 23 _ _ _ ht .i64 _ (by omega) (by omega), he, Try.sizeOf49]
  simp [Result.andThen, sliced, tlE]
theorem RdE.tl {L : List Ent} {v : Value} {w : World} (h : RdE L v w) (k : Nat) (hk : k ≤ L.length) : RdE (L.drop k) (tlE v k) w := by
  obtain ⟨hy, a, cap, rfl, h1, h2, h3⟩ := h
  refine ⟨hy.drop k, if cap = k then a else a.map (·.add (k * 3)), cap - k, by rw [List.length_drop]; rfl, by rw [List.length_drop]; omega, by omega, fun hp => ?_⟩
  rw [List.length_drop] at hp
  obtain ⟨b, off, rfl, hb, hc⟩ := h3 (by omega)
  refine ⟨b, off + k * 3, by rw [if_neg (by omega)]; simp [Addr.add], hb, fun j hj => ?_⟩
  rw [List.length_drop] at hj
  have e : (L.drop k).getD j Ent.z = L.getD (k + j) Ent.z := by simp [List.getD]
  rw [e, show off + k * 3 + j * 3 = off + (k + j) * 3 by omega]
  exact hc (k + j) (by omega)
set_option maxRecDepth 100000 in
set_option maxHeartbeats 1000000 in
theorem growE_any (n : Nat) (w : World) (hn : n ≤ 549755813888) :
    Calls Try.prog 76 #[.slice none 0 0, .int .i64 n] w fun e w' => ∃ u, e = .returned u ∧ OwnE w.heap.size [] u w' ∧ Below w.heap.size w w' := by
  by_cases h0 : n = 0
  · subst h0
    go_enter Try.func76, Try.ntmps76
    go_wp2
    go_ret
    exact ⟨_, rfl, OwnE.empty _ _, Below.refl _ _⟩
  · have h1 : (0 : Int) < (n : Int) := by omega
    have h2 : ¬ (n : Int) < 0 := by omega
    obtain ⟨i0, hi, hz0, hz1, hz2⟩ := info_parts info_ent
    have happ := Lib.run_append_nil_zeros (P := Try.prog) w 23 3 23 49 i0 (.agg #[.string ByteArray.empty, .int .i64 0, .int .i64 0]) .i64 .i64 Try.underlying23 Try.underlying3 hi hz0 n (by omega) (by omega) (by omega) (by rw [hz2]; omega)
    generalize hcap : grownCap w n 0 49 = cap2 at happ
    have hcapge : n ≤ cap2 := by rw [← hcap]; exact grownCap_ge w _ 0 49
    have hcaple : cap2 ≤ maxLen := by rw [← hcap]; exact grownCap_le_maxLen w _ 0 49 (by unfold maxLen; omega)
    generalize hZ : (Builtin.zeroCells (Value.agg #[.string ByteArray.empty, .int .i64 0, .int .i64 0]).cells n ++ Builtin.zeroCells (Value.agg #[.string ByteArray.empty, .int .i64 0, .int .i64 0]).cells (cap2 - n)) = Z at happ
    have hZs : Z.size = cap2 * 3 := by rw [← hZ]; simp [size_zeroCells, Value.cells]; omega
    have HOW : Hid (OwnE w.heap.size [] (.slice (some ⟨w.heap.size, 0, none⟩) 0 cap2) (w.drew.alloc (.cells Z 49))) := Lib.hid ⟨EOk.nil, rfl, .inr ⟨w.heap.size, cap2, Z, rfl, Nat.le_refl _, heap_alloc_new w.drew _, Nat.zero_le _, hcaple, hZs, by simp [cellsE]⟩⟩
    have HBW : Hid (Below w.heap.size w (w.drew.alloc (.cells Z 49))) := Lib.hid ((Below.refl _ _).drew.alloc (Nat.le_refl _) _)
    clear hcap hZ hi hz0 hz1 hz2 hZs
    go_enter Try.func76, Try.ntmps76
    go_wp2_with (at_builtin; refine Lib.wpList_append_run _ rfl _ _ _ _ rfl _ _ rfl rfl _ _ happ ?_)
    go_ret
    exact ⟨_, rfl, HOW.out, HBW.out⟩
/-- How much, and what, of three lists lies behind k of them. -/
def p3 (a b c : Nat) : Nat → Nat
  | 0 => 0
  | 1 => a
  | 2 => a + b
  | _ => a + b + c
def l3 (A B C : List Ent) : Nat → List Ent
  | 0 => []
  | 1 => A
  | 2 => A ++ B
  | _ => A ++ B ++ C
theorem four {k : Nat} (h : k ≤ 3) : k = 0 ∨ k = 1 ∨ k = 2 ∨ k = 3 := by omega
set_option maxRecDepth 100000 in
set_option maxHeartbeats 2000000 in
theorem concat_any (A B C : List Ent) (va vb vc : Value) (gb : Nat) (w : World) (h0 : w.cell? ⟨gb, 0, none⟩ = some va) (h1 : w.cell? ⟨gb, 1, none⟩ = some vb) (h2 : w.cell? ⟨gb, 2, none⟩ = some vc) (hA : RdE A va w) (hB : RdE B vb w) (hC : RdE C vc w) (hn : A.length + B.length + C.length ≤ 549755813888) (hg : gb < w.heap.size) :
    Calls Try.prog 67 #[.slice (some ⟨gb, 0, none⟩) 3 3] w fun e w' => ∃ u, e = .returned u ∧ OwnE w.heap.size (A ++ B ++ C) u w' ∧ Below w.heap.size w w' := by
  have HA := Lib.hid hA
  have HB := Lib.hid hB
  have HC := Lib.hid hC
  have HC0 := Lib.hid h0
  have HC1 := Lib.hid h1
  have HC2 := Lib.hid h2
  have HG := Lib.hid hg
  obtain ⟨aa, ca, rfl⟩ := hA.shape
  obtain ⟨ab, cb, rfl⟩ := hB.shape
  obtain ⟨ac, cc, rfl⟩ := hC.shape
  clear hA hB hC
  go_enter Try.func67, Try.ntmps67
  go_wp2
  go_loopw [3, 5, 11] (fun s _ i wr => ∃ k : Nat, k ≤ 3 ∧ i = .int .i64 (k : Int) ∧ s = .int .i64 (p3 A.length B.length C.length k : Nat) ∧ w = wr) (fun _ _ i _ => 3 - (intOf i).toNat)
  case atStart => exact ⟨0, by omega, rfl, rfl, rfl⟩
  case round =>
    obtain ⟨k, hk, rfl, rfl, rfl⟩ := hrel
    rcases four hk with rfl | rfl | rfl | rfl
    · have q1 : wrap64 (0 + (A.length : Int)) = (A.length : Int) := by unfold wrap64; omega
      have q2 : IntKind.i64.wrap (0 + (A.length : Int)) = (A.length : Int) := by rw [IntKind.wrap_i64]; omega
      have q3 : ¬ (A.length : Int) < 0 := by omega
      simp only [p3]
      go_wp2
      exact ⟨⟨1, by omega, by go_num, by simp [p3], trivial⟩, by simp [intOf]⟩
    · have q1 : wrap64 ((A.length : Int) + (B.length : Int)) = (A.length : Int) + (B.length : Int) := by unfold wrap64; omega
      have q2 : IntKind.i64.wrap ((A.length : Int) + (B.length : Int)) = (A.length : Int) + (B.length : Int) := by rw [IntKind.wrap_i64]; omega
      have q3 : ¬ (A.length : Int) + (B.length : Int) < 0 := by omega
      simp only [p3]
      go_wp2
      exact ⟨⟨2, by omega, by go_num, by simp [p3], trivial⟩, by simp [intOf]⟩
    · have q1 : wrap64 ((A.length : Int) + (B.length : Int) + (C.length : Int)) = (A.length : Int) + (B.length : Int) + (C.length : Int) := by unfold wrap64; omega
      have q2 : IntKind.i64.wrap ((A.length : Int) + (B.length : Int) + (C.length : Int)) = (A.length : Int) + (B.length : Int) + (C.length : Int) := by rw [IntKind.wrap_i64]; omega
      have q3 : ¬ (A.length : Int) + (B.length : Int) + (C.length : Int) < 0 := by omega
      simp only [p3]
      simp only [Int.natCast_add]
      go_wp2
      exact ⟨⟨3, by omega, by go_num, by simp [p3], trivial⟩, by simp [intOf]⟩
    · clear h0 h1 h2
      have hgr := Lib.hid (growE_any (p3 A.length B.length C.length 3) w hn)
      go_wp2_with (go_at_call 76; refine hgr.out.mono ?_; rintro e w1 ⟨u1, rfl, ho1, hb1⟩; have H1 : Hid (LoS w (l3 A B C 0) u1 w1) := Lib.hid ⟨ho1, hb1⟩; clear ho1 hb1)
      clear hgr
      go_loopw [6, 8, 27] (fun o _ i wx => ∃ k : Nat, k ≤ 3 ∧ i = .int .i64 (k : Int) ∧ Hid (LoS w (l3 A B C k) o wx)) (fun _ _ i _ => 3 - (intOf i).toNat)
      case atStart => exact ⟨0, by omega, rfl, H1⟩
      case round =>
        clear H1
        obtain ⟨k, hk, rfl, HI⟩ := hrel
        have hzz := HI.out.2.size
        obtain ⟨HC0', -⟩ := bcell HI.out.2
        have d0 := (HC0' gb 0 HG.out).trans HC0.out
        have d1 := (HC0' gb 1 HG.out).trans HC1.out
        have d2 := (HC0' gb 2 HG.out).trans HC2.out
        clear HC0'
        rcases four hk with rfl | rfl | rfl | rfl
        · have HS0 := Lib.hid (HA.out.below HI.out.2).src
          go_wp2_with (at_builtin; refine wp_appE rfl _ _ _ rfl w.heap.size (l3 A B C 0) A _ _ rfl rfl HI.out.1 HS0.out hzz (by simp [l3]; omega) ?_; intro v2 w2 ho2 hb2; have H2 : Hid (LoS w (l3 A B C 1) v2 w2) := Lib.hid ⟨by simpa [l3] using ho2, HI.out.2.trans hb2⟩; clear ho2 hb2)
          exact ⟨⟨1, by omega, by go_num, H2⟩, by simp [intOf]⟩
        · have HS0 := Lib.hid (HB.out.below HI.out.2).src
          go_wp2_with (at_builtin; refine wp_appE rfl _ _ _ rfl w.heap.size (l3 A B C 1) B _ _ rfl rfl HI.out.1 HS0.out hzz (by simp [l3]; omega) ?_; intro v2 w2 ho2 hb2; have H2 : Hid (LoS w (l3 A B C 2) v2 w2) := Lib.hid ⟨by simpa [l3] using ho2, HI.out.2.trans hb2⟩; clear ho2 hb2)
          exact ⟨⟨2, by omega, by go_num, H2⟩, by simp [intOf]⟩
        · have HS0 := Lib.hid (HC.out.below HI.out.2).src
          go_wp2_with (at_builtin; refine wp_appE rfl _ _ _ rfl w.heap.size (l3 A B C 2) C _ _ rfl rfl HI.out.1 HS0.out hzz (by simp [l3]; omega) ?_; intro v2 w2 ho2 hb2; have H2 : Hid (LoS w (l3 A B C 3) v2 w2) := Lib.hid ⟨by simpa [l3] using ho2, HI.out.2.trans hb2⟩; clear ho2 hb2)
          exact ⟨⟨3, by omega, by go_num, H2⟩, by simp [intOf]⟩
        · go_wp2
          go_ret
          exact ⟨_, rfl, HI.out.1, HI.out.2⟩
end Go.Proofs.Ytmmdnomfpfcjiaa
