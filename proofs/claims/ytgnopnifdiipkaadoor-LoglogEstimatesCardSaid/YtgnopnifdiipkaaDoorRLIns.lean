/- The contract of the reference's InsertLogLog. -/
import Derived.Test.YtgnopnifdiipkaaDoorRLPos
import Derived.Test.YtgnopnifdiipkaaDoorMeet
import Derived.Deep.RegionLaw
namespace Go.Proofs.YtgnopnifdiipkaaDoor
open Go.RowKit
set_option linter.unusedVariables false
set_option linter.unusedSimpArgs false
def WfL (c : LL) : Prop := 0 ≤ c.x ∧ c.x ≤ 18446744073709551615
def ItS (g : Nat) (k : ByteArray) (m : Int) (w : World) : Prop := w.cell? ⟨g, 0, none⟩ = some (.string k) ∧ w.cell? ⟨g, 1, none⟩ = some (.int .i64 m)
theorem ItS.keep {g : Nat} {k : ByteArray} {m : Int} {w w' : World} (h : ItS g k m w) (hb : w'.heap[g]? = w.heap[g]?) : ItS g k m w' :=
  ⟨(World.cell?_of_block (w := w) (a := ⟨g, 0, none⟩) hb).trans h.1, (World.cell?_of_block (w := w) (a := ⟨g, 1, none⟩) hb).trans h.2⟩
theorem ItS.new (k : ByteArray) (m : Int) (t : TypeId) (w : World) : ItS w.heap.size k m (w.alloc (.cells #[.string k, .int .i64 m] t)) := ⟨by go_simp, by go_simp⟩
/-- The blocks of an insertion: the sketch, the item, the result. -/
def LIn (h : Nat) (P x : Int) (v : Value) (k : ByteArray) (m : Int) (w : World) : Prop :=
  LSt h P x v w ∧ ItS (h + 1) k m w ∧ LSt (h + 2) 0 0 (.slice none 0 0) w
theorem LIn.keep {h : Nat} {P x : Int} {v : Value} {k : ByteArray} {m : Int} {w w' : World} (hm : LIn h P x v k m w) (hb : ∀ b, b < h + 3 → w'.heap[b]? = w.heap[b]?) : LIn h P x v k m w' :=
  ⟨hm.1.keep (hb _ (by omega)), hm.2.1.keep (hb _ (by omega)), hm.2.2.keep (hb _ (by omega))⟩
theorem LIn.below {h B : Nat} {P x : Int} {v : Value} {k : ByteArray} {m : Int} {w w' : World} (hm : LIn h P x v k m w) (hb : Below B w w') (hB : h + 2 < B) : LIn h P x v k m w' :=
  hm.keep fun b hb' => hb.block b (by omega)
theorem LIn.new (P x : Int) (v : Value) (k : ByteArray) (m : Int) (t t' : TypeId) (w : World) :
    LIn w.heap.size P x v k m (((w.alloc (.cells #[.int .i64 P, .int .u64 x, v] t)).alloc (.cells #[.string k, .int .i64 m] t')).alloc (.cells #[.int .i64 0, .int .u64 0, .slice none 0 0] t)) := by
  have hz : ∀ (w : World) o, (w.alloc o).heap.size = w.heap.size + 1 := fun w o => by simp
  refine ⟨((LSt.new P x v t w).below (b1 _) (by simp)).below (b1 _) (by simp; omega), ?_, ?_⟩
  · have h := ItS.new k m t' (w.alloc (.cells #[.int .i64 P, .int .u64 x, v] t))
    rw [hz] at h
    exact h.keep (Below.heap_alloc _ _ _ (by simp))
  · have h := LSt.new 0 0 (.slice none 0 0) t ((w.alloc (.cells #[.int .i64 P, .int .u64 x, v] t)).alloc (.cells #[.string k, .int .i64 m] t'))
    rw [hz, hz] at h
    exact h
set_option maxRecDepth 100000 in
set_option maxHeartbeats 4000000 in
theorem rlins_any (c : LL) (v : Value) (k : ByteArray) (m : Int) (w : World) (hc : WfL c) (hv : RdL c v w) (hk : k.size ≤ maxLen) (m0 : -9223372036854775808 ≤ m) (m1 : m ≤ 9223372036854775807) :
    Calls Tryd.prog 20 #[v, .agg #[.string k, .int .i64 m]] w fun e w' =>
      ∃ u, e = .returned (.tuple #[u, .int .i64 (llInsE c k m)]) ∧ OwnL w.heap.size (llIns c k m) u w' ∧ Below w.heap.size w w' := by
  obtain ⟨P, x, L⟩ := c
  obtain ⟨x0, x1⟩ := hc
  obtain ⟨a, n, cap, rfl, hR⟩ := hv
  dsimp only at x0 x1 hR ⊢
  have h1 := fun (w' : World) (hb : Below w.heap.size w w') => rlval_any P x L a n cap w' (hR.below hb)
  have h2 := fun w => ritem_any k m w hk m0 m1
  have M0 := Lib.hid (LIn.new P x (.slice a n cap) k m 26 37 w)
  have HB0 := Lib.hid (b3 (a := w) (.cells #[.int .i64 P, .int .u64 x, .slice a n cap] 26) (.cells #[.string k, .int .i64 m] 37) (.cells #[.int .i64 0, .int .u64 0, .slice none 0 0] 26))
  unfold llIns llInsE
  dsimp only
  by_cases hE : llE P L = 0
  · rw [if_neg (by rw [hE]; simp), if_neg (by rw [hE]; simp)]
    obtain ⟨⟨P0, P1⟩, hlen, hreg⟩ := llE_ok hE
    rw [hE] at h1
    by_cases hF : itemE (byt k) m = 0
    · rw [if_neg (by rw [hF]; simp), hF]
      rw [hF] at h2
      have hkey : keyB (byt k) = true := by
        unfold itemE at hF
        by_cases hq : keyB (byt k) = false
        · rw [if_pos hq] at hF; cases hF
        · simpa using hq
      have hp := fun w => rpos_any P x k w x0 x1 hk
      have hpe : posE P k = 0 := by unfold posE; rw [if_neg (by rw [(prB_iff P).2 ⟨P0, P1⟩]; simp), if_neg (by rw [hkey]; simp)]
      have hpr : posR P x k = (regI P x k : Nat) := by unfold posR; rw [hpe, if_pos rfl]
      have hpk : posK P x k = rnkI P x k := by unfold posK; rw [hpe, if_pos rfl]
      rw [hpe, hpr, hpk] at hp
      have hi := regI_lt (x := x) (k := k) ⟨P0, P1⟩
      have hN := llN_bd ⟨P0, P1⟩
      rw [← hlen] at hi hN
      have hrk : -9223372036854775808 ≤ rnkI P x k ∧ rnkI P x k ≤ 9223372036854775807 := by
        have := rnkI_bd (x := x) (k := k) ⟨P0, P1⟩
        omega
      generalize regI P x k = i at *
      generalize rnkI P x k = z at *
      obtain ⟨hN0, hN1⟩ := hN
      clear hE hF hpe hpr hpk hkey hlen hreg
      go_enter Tryd.func20, Tryd.ntmps20
      go_wp2_with (first
        | (go_at_call 22; (with_reducible refine (h1 _ HB0.out).mono ?_); rintro e w2 ⟨rfl, hb2⟩; have B2 := Lib.hid (bgo HB0.out hb2); have M2 := Lib.hid (M0.out.below hb2 (by simp)); have L2 := Lib.hid (show w.heap.size + 3 ≤ w2.heap.size by have := hb2.size; simp at this; omega); obtain ⟨⟨⟨q0, q1, q2⟩, f0, f1, f2⟩, ⟨i0, i1⟩, -⟩ := M2.out; clear hb2 h1 M0 HB0)
        | (go_at_call 47; (with_reducible refine (h2 _).mono ?_); rintro e w3 ⟨rfl, hb3⟩; have B3 := Lib.hid (bgo B2.out hb3); have M3 := Lib.hid (M2.out.below hb3 (by have := L2.out; omega)); have L3 := Lib.hid (Nat.le_trans L2.out hb3.size); clear q0 q1 q2 f0 f1 f2 i0 i1; obtain ⟨⟨⟨q0, q1, q2⟩, f0, f1, f2⟩, ⟨i0, i1⟩, -⟩ := M3.out; clear hb3 h2 B2 M2 L2)
        | (go_at_call 14; (with_reducible refine (hp _).mono ?_); rintro e w4 ⟨rfl, hb4⟩; have B4 := Lib.hid (bgo B3.out hb4); have M4 := Lib.hid (M3.out.below hb4 (by have := L3.out; omega)); have L4 := Lib.hid (Nat.le_trans L3.out hb4.size); have HS4 := Lib.hid (hR.below B4.out).src; clear q0 q1 q2 f0 f1 f2 i0 i1; obtain ⟨⟨⟨q0, q1, q2⟩, f0, f1, f2⟩, ⟨i0, i1⟩, -⟩ := M4.out; clear hb4 hp B3 M3 L3)
        | (at_builtin; refine wp_appI rfl _ _ _ rfl w4.heap.size [] L _ _ rfl rfl (OwnI.empty _ _) HS4.out (Nat.le_refl _) (by simp; omega) ?_; intro v5 w5 ho5 hb5; rw [List.nil_append] at ho5; have B5 := Lib.hid (bgo B4.out hb5); have M5 := Lib.hid (M4.out.below hb5 (by have := L4.out; omega)); have L5 := Lib.hid (Nat.le_trans L4.out hb5.size); clear q0 q1 q2 f0 f1 f2 i0 i1; obtain ⟨⟨⟨q0, q1, q2⟩, f0, f1, f2⟩, ⟨i0, i1⟩, -⟩ := M5.out; obtain ⟨a5, cap5, rfl⟩ := ho5.rd.shape; obtain ⟨b, rfl, hbB, hbs, -, -⟩ := ho5.cells (by omega); have O5 := Lib.hid ho5; clear ho5 hb5 B4 M4))
      have hB6 : w.heap.size + 3 ≤ w4.heap.size := L4.out
      have M6 := Lib.hid (M5.out.1.setV (.slice (some ⟨b, 0, none⟩) L.length cap5))
      have R6 := Lib.hid (M5.out.2.2.far (show w.heap.size + 2 ≠ w.heap.size by omega) 2 (.slice (some ⟨b, 0, none⟩) L.length cap5))
      have O6 := Lib.hid (O5.out.keep (b := w.heap.size) (by omega) 2 (.slice (some ⟨b, 0, none⟩) L.length cap5))
      have B6 := Lib.hid (bset B5.out w.heap.size 2 (.slice (some ⟨b, 0, none⟩) L.length cap5) (Nat.le_refl _))
      clear M5 O5 B5 L5 L4 HS4 q0 q1 q2 f0 f1 f2 i0 i1 hbs
      generalize w5.setCell ⟨w.heap.size, 2, none⟩ (.slice (some ⟨b, 0, none⟩) L.length cap5) = w6 at *
      obtain ⟨g, he, hgB, hgs, hcell, hst⟩ := O6.out.cells (by omega)
      obtain rfl : b = g := by simpa using he
      obtain ⟨hc1, hc2⟩ := hcell i hi
      have hrg := O6.out.rd.at_ i
      have HST := Lib.hid hst
      have hiI : (i : Int) < (L.length : Int) := by omega
      have hi0 : (0 : Int) ≤ (i : Int) := by omega
      have hne1 : ¬ b = w.heap.size := by omega
      have hne2 : ¬ w.heap.size = b := by omega
      have hne3 : ¬ b = w.heap.size + 1 + 1 := by omega
      have hne4 : ¬ w.heap.size + 1 + 1 = b := by omega
      obtain ⟨⟨q0, q1, q2⟩, f0, f1, f2⟩ := M6.out
      obtain ⟨⟨r0, r1, r2⟩, g0, g1, g2⟩ := R6.out
      have hmx : -9223372036854775808 ≤ max (L.getD i 0) z ∧ max (L.getD i 0) z ≤ 9223372036854775807 := by omega
      have HMX := Lib.hid hmx
      have HL := Lib.hid (show ∀ y, -9223372036854775808 ≤ y ∧ y ≤ 9223372036854775807 → OwnI w4.heap.size (L.set i y) (.slice (some ⟨b, 0, none⟩) L.length cap5) (w6.setCell ⟨b, i, none⟩ (.int .i64 y)) from fun y hy => HST.out i y hy)
      clear hcell hst he M6 R6 O6 HST hgs
      have HI := Lib.hid hi
      have HB6 := Lib.hid hB6
      clear hmx
      generalize hq : L.getD i 0 = q at *
      have HQ := Lib.hid hq
      clear hq
      go_big_region
      go_wp2
      refine bodyPost_ret (v := .tuple #[.agg #[.int .i64 P, .int .u64 x, .slice (some ⟨b, 0, none⟩) L.length cap5], .int .i64 0]) (by simp [results, Tryd.results20, go_sem, *]) rfl ⟨_, rfl, ⟨_, _, _, rfl, ?_⟩, ?_⟩
      · show OwnI w.heap.size (L.set i (max (L.getD i 0) z)) _ _
        rw [HQ.out]
        exact OwnI.mono (OwnI.keep3 (k := w.heap.size + 1 + 1) (HL.out (max q z) HMX.out) (by have := HB6.out; omega) _ _ _) (by have := HB6.out; omega)
      · exact (bset3 (bset B6.out b i _ (by have := HB6.out; omega)) _ (by omega) _ _ _).drew
    · rw [if_pos hF]
      have hF2 : (itemE (byt k) m != 0) = true := by simpa using hF
      generalize itemE (byt k) m = E at *
      clear hF hE hlen hreg
      go_enter Tryd.func20, Tryd.ntmps20
      go_wp2_with (first
        | (go_at_call 22; (with_reducible refine (h1 _ HB0.out).mono ?_); rintro e w2 ⟨rfl, hb2⟩; have B2 := Lib.hid (bgo HB0.out hb2); have M2 := Lib.hid (M0.out.below hb2 (by simp)); have L2 := Lib.hid (show w.heap.size + 3 ≤ w2.heap.size by have := hb2.size; simp at this; omega); obtain ⟨-, ⟨i0, i1⟩, -⟩ := M2.out; clear hb2 h1 M0 HB0)
        | (go_at_call 47; (with_reducible refine (h2 _).mono ?_); rintro e w3 ⟨rfl, hb3⟩; have B3 := Lib.hid (bgo B2.out hb3); have M3 := Lib.hid (M2.out.below hb3 (by have := L2.out; omega)); clear i0 i1; obtain ⟨-, -, ⟨r0, r1, r2⟩, g0, g1, g2⟩ := M3.out; clear hb3 h2 B2 M2 L2))
      refine bodyPost_ret (v := .tuple #[.agg #[.int .i64 0, .int .u64 0, .slice none 0 0], .int .i64 E]) (by simp [results, Tryd.results20, go_sem, *]) rfl ⟨_, rfl, noneL_own _ _, ?_⟩
      exact bset3 B3.out _ (by omega) _ _ _
  · rw [if_pos hE, if_pos hE]
    have hE2 : (llE P L != 0) = true := by simpa using hE
    generalize llE P L = E at *
    clear hE h2
    go_enter Tryd.func20, Tryd.ntmps20
    go_wp2_with (go_at_call 22; (with_reducible refine (h1 _ HB0.out).mono ?_); rintro e w2 ⟨rfl, hb2⟩; have B2 := Lib.hid (bgo HB0.out hb2); have M2 := Lib.hid (M0.out.below hb2 (by simp)); obtain ⟨-, -, ⟨r0, r1, r2⟩, g0, g1, g2⟩ := M2.out; clear hb2 h1 M0)
    refine bodyPost_ret (v := .tuple #[.agg #[.int .i64 0, .int .u64 0, .slice none 0 0], .int .i64 E]) (by simp [results, Tryd.results20, go_sem, *]) rfl ⟨_, rfl, noneL_own _ _, ?_⟩
    exact bset3 B2.out _ (by omega) _ _ _
end Go.Proofs.YtgnopnifdiipkaaDoor
