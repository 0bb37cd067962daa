/- The contracts of topk.indexOf and Find; of the reference's FindTop. -/
import Derived.Test.YtcmekpdgikploaaInsN
import Derived.Test.YtcmekpdgikploaaRValT
namespace Go.Proofs.Ytcmekpdgikploaa
open Go.RowKit
set_option linter.unusedVariables false
set_option linter.unusedSimpArgs false
theorem PosM.set3 {L : List Ent} {j b g : Nat} {w : World} (h : PosM L j b w) (hb : b ≠ g) (u0 u1 u2 : Value) : PosM L j b (((w.setCell ⟨g, 0, none⟩ u0).setCell ⟨g, 1, none⟩ u1).setCell ⟨g, 2, none⟩ u2) :=
  h.blk (by rw [Below.heap_setCell _ ⟨g, 2, none⟩ _ _ hb, Below.heap_setCell _ ⟨g, 1, none⟩ _ _ hb, Below.heap_setCell _ ⟨g, 0, none⟩ _ _ hb])
/-- An index that is not yet laid. -/
def Ix0 (g : Nat) (w : World) : Prop :=
  (w.cell? ⟨g, 0, none⟩ = some (.slice none 0 0) ∧ w.cell? ⟨g, 1, none⟩ = some (.map none) ∧ w.cell? ⟨g, 2, none⟩ = some (.int .i64 0)) ∧ w.frozen? ⟨g, 0, none⟩ = false ∧ w.frozen? ⟨g, 1, none⟩ = false ∧ w.frozen? ⟨g, 2, none⟩ = false
theorem Ix0.keep {g : Nat} {w w' : World} (h : Ix0 g w) (hb : w'.heap[g]? = w.heap[g]?) : Ix0 g w' := by
  obtain ⟨⟨h0, h1, h2⟩, f0, f1, f2⟩ := h
  have hc : ∀ o, w'.cell? ⟨g, o, none⟩ = w.cell? ⟨g, o, none⟩ := fun o => World.cell?_of_block (w := w) (a := ⟨g, o, none⟩) hb
  have hf : ∀ o, w'.frozen? ⟨g, o, none⟩ = w.frozen? ⟨g, o, none⟩ := fun o => World.frozen?_of_block (w := w) (a := ⟨g, o, none⟩) hb
  exact ⟨⟨(hc _).trans h0, (hc _).trans h1, (hc _).trans h2⟩, (hf _).trans f0, (hf _).trans f1, (hf _).trans f2⟩
theorem Ix0.lt {g : Nat} {w : World} (h : Ix0 g w) : g < w.heap.size := by
  have h0 := h.1.1
  unfold World.cell? at h0
  cases hb : w.heap[g]? with
  | none => simp [hb] at h0
  | some o => exact (Array.getElem?_eq_some_iff.1 hb).1
theorem Ix0.new (w : World) (t : TypeId) : Ix0 w.heap.size (w.alloc (.cells #[.slice none 0 0, .map none, .int .i64 0] t)) := ⟨⟨by go_simp, by go_simp, by go_simp⟩, by go_simp, by go_simp, by go_simp⟩
/-- The state of indexOf. -/
def IxS (W : World) (S T : Int) (v : Value) (s : Bool) (w : World) : Prop := TopS W.heap.size S T v s w ∧ Below W.heap.size W w ∧ Ix0 (W.heap.size + 1) w
theorem IxS.go {W : World} {S T : Int} {v : Value} {s : Bool} {w w' : World} (h : IxS W S T v s w) (hb : Below w.heap.size w w') : IxS W S T v s w' := ⟨h.1.below hb h.1.lt, bgo h.2.1 hb, h.2.2.keep (hb.block _ h.2.2.lt)⟩
set_option maxRecDepth 100000 in
set_option maxHeartbeats 4000000 in
theorem iof_any (S T : Int) (L : List Ent) (s : Bool) (a : Option Addr) (n cap : Nat) (w : World) (hr : RdE L (.slice a n cap) w) (hn : L.length ≤ 549755813888) :
    Calls Try.prog 47 #[.agg #[.int .i64 S, .int .i64 T, .slice a n cap, .bool s]] w fun e w' =>
      ∃ b : Nat, e = .returned (.agg #[.slice a n cap, .map (some b), .int .i64 (leastI S L)]) ∧ PosM L L.length b w' ∧ Below w.heap.size w w' := by
  obtain ⟨a', cap', he⟩ := hr.shape
  simp only [Value.slice.injEq] at he
  obtain ⟨rfl, rfl, rfl⟩ := he
  have HP := Lib.hid (fun (w' : World) (hb : Below w.heap.size w w') => pos_any L a L.length cap w' (hr.below hb) hn)
  have HL := Lib.hid (fun (w' : World) (hb : Below w.heap.size w w') => pleast_any S T L s a L.length cap w' (hr.below hb) hn)
  clear hr
  have HI0 := Lib.hid (show IxS w S T (.slice a L.length cap) s ((w.alloc (.cells #[.int .i64 S, .int .i64 T, .slice a L.length cap, .bool s] 25)).alloc (.cells #[.slice none 0 0, .map none, .int .i64 0] 77)) from ⟨(TopS.new S T _ s _ w).below (b1 _) (by simp), b2 _ _, by have := Ix0.new (w.alloc (.cells #[.int .i64 S, .int .i64 T, .slice a L.length cap, .bool s] 25)) 77; simpa using this⟩)
  go_enter Try.func47, Try.ntmps47
  go_wp2
  go_region_law (go_simp; first
    | (go_at_call 31; refine (HP.out _ (by first | exact (HI0.out.go (Below.refl _ _).drew).2.1 | exact HI1.out.2.1 | exact (HI1.out.go (Below.refl _ _).drew).2.1)).mono ?_; rintro e w2 ⟨rfl, hp, hb⟩; have HJ : Hid (IxS w S T (.slice a L.length cap) s w2) := Lib.hid (by first | exact (HI0.out.go (Below.refl _ _).drew).go hb | exact HI1.out.go hb | exact (HI1.out.go (Below.refl _ _).drew).go hb); have HPM := Lib.hid hp; obtain ⟨⟨z0, z1, z2, z3⟩, -⟩ := HJ.out.1; obtain ⟨⟨x0, x1, x2⟩, v0, v1, v2⟩ := HJ.out.2.2; clear hp hb)
    | (go_at_call 28; refine (HL.out _ (by first | exact (HI0.out.go (Below.refl _ _).drew).2.1 | exact HJ.out.2.1 | exact (HJ.out.go (Below.refl _ _).drew).2.1)).mono ?_; rintro e w3 ⟨rfl, hb⟩; have HI1 : Hid (IxS w S T (.slice a L.length cap) s w3) := Lib.hid (by first | exact (HI0.out.go (Below.refl _ _).drew).go hb | exact HJ.out.go hb | exact (HJ.out.go (Below.refl _ _).drew).go hb); (try (have HPN := Lib.hid (HPM.out.below hb))); obtain ⟨⟨y0, y1, y2, y3⟩, -⟩ := HI1.out.1; obtain ⟨⟨k0, k1, k2⟩, m0, m1, m2⟩ := HI1.out.2.2; clear hb))
  all_goals
    go_wp2
    first
      | (refine bodyPost_ret (v := .agg #[.slice a L.length cap, .map (some (w.heap.size + 1 + 1)), .int .i64 (leastI S L)]) (by simp [results, Try.results47, go_sem, *]) rfl ⟨_, rfl, ?_, ?_⟩
         · exact PosM.set3 (by simpa using HPN.out) (by omega) _ _ _
         · exact bset (bset (bset HI1.out.2.1 _ _ _ (by omega)) _ _ _ (by omega)) _ _ _ (by omega))
      | (refine bodyPost_ret (v := .agg #[.slice a L.length cap, .map (some w3.heap.size), .int .i64 (leastI S L)]) (by simp [results, Try.results47, go_sem, *]) rfl ⟨_, rfl, ?_, ?_⟩
         · exact PosM.set3 (by simpa using HPM.out) (by have := HI1.out.2.2.lt; omega) _ _ _
         · exact bset (bset (bset HJ.out.2.1 _ _ _ (by omega)) _ _ _ (by omega)) _ _ _ (by omega))
end Go.Proofs.Ytcmekpdgikploaa
