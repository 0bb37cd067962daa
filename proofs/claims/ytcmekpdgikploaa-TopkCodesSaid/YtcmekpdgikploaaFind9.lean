/- The contracts of topk.Find and of the reference's FindTop. -/
import Derived.Test.YtcmekpdgikploaaPFnd2
namespace Go.Proofs.Ytcmekpdgikploaa
open Go.RowKit
set_option linter.unusedVariables false
set_option linter.unusedSimpArgs false
def findE (S T : Int) (L : List Ent) (k : ByteArray) : Int := if valE S T L ≠ 0 then valE S T L else if keyB (byt k) = false then 7 else 0
def findX (S T : Int) (L : List Ent) (k : ByteArray) : Ent := if findE S T L k ≠ 0 then ⟨⟨#[]⟩, 0, 0⟩ else entAt L k (leastI S L)
def findB (S T : Int) (L : List Ent) (k : ByteArray) : Bool := if findE S T L k ≠ 0 then false else hasK L k
/-- A struct of three cells: an entry that can be written. -/
def En3 (g : Nat) (w : World) : Prop :=
  (w.cell? ⟨g, 0, none⟩ = some (.string ⟨#[]⟩) ∧ w.cell? ⟨g, 1, none⟩ = some (.int .i64 0) ∧ w.cell? ⟨g, 2, none⟩ = some (.int .i64 0)) ∧ w.frozen? ⟨g, 0, none⟩ = false ∧ w.frozen? ⟨g, 1, none⟩ = false ∧ w.frozen? ⟨g, 2, none⟩ = false
theorem En3.keep {g : Nat} {w w' : World} (h : En3 g w) (hb : w'.heap[g]? = w.heap[g]?) : En3 g w' := by
  obtain ⟨⟨h0, h1, h2⟩, f0, f1, f2⟩ := h
  have hc : ∀ o, w'.cell? ⟨g, o, none⟩ = w.cell? ⟨g, o, none⟩ := fun o => World.cell?_of_block (w := w) (a := ⟨g, o, none⟩) hb
  have hf : ∀ o, w'.frozen? ⟨g, o, none⟩ = w.frozen? ⟨g, o, none⟩ := fun o => World.frozen?_of_block (w := w) (a := ⟨g, o, none⟩) hb
  exact ⟨⟨(hc _).trans h0, (hc _).trans h1, (hc _).trans h2⟩, (hf _).trans f0, (hf _).trans f1, (hf _).trans f2⟩
theorem En3.lt {g : Nat} {w : World} (h : En3 g w) : g < w.heap.size := by
  have h0 := h.1.1
  unfold World.cell? at h0
  cases hb : w.heap[g]? with
  | none => simp [hb] at h0
  | some o => exact (Array.getElem?_eq_some_iff.1 hb).1
/-- The state of Find. -/
def FnS (W : World) (S T : Int) (v : Value) (s : Bool) (w : World) : Prop := TopS W.heap.size S T v s w ∧ Below W.heap.size W w ∧ En3 (W.heap.size + 1) w
theorem FnS.go {W : World} {S T : Int} {v : Value} {s : Bool} {w w' : World} (h : FnS W S T v s w) (hb : Below w.heap.size w w') : FnS W S T v s w' := ⟨h.1.below hb h.1.lt, bgo h.2.1 hb, h.2.2.keep (hb.block _ h.2.2.lt)⟩
theorem FnS.new (W : World) (S T : Int) (v : Value) (s : Bool) : FnS W S T v s ((W.alloc (.cells #[.int .i64 S, .int .i64 T, v, .bool s] 25)).alloc (.cells #[.string ⟨#[]⟩, .int .i64 0, .int .i64 0] 49)) :=
  ⟨(TopS.new S T v s _ W).below (b1 _) (by simp), b2 _ _, ⟨by go_simp, by go_simp, by go_simp⟩, by go_simp, by go_simp, by go_simp⟩
theorem FnS.cells {W : World} {S T : Int} {v : Value} {s : Bool} {w : World} (h : FnS W S T v s w) :
    (w.cell? ⟨W.heap.size, 0, none⟩ = some (.int .i64 S) ∧ w.cell? ⟨W.heap.size, 1, none⟩ = some (.int .i64 T) ∧ w.cell? ⟨W.heap.size, 2, none⟩ = some v ∧ w.cell? ⟨W.heap.size, 3, none⟩ = some (.bool s)) ∧
    ((w.cell? ⟨W.heap.size + 1, 0, none⟩ = some (.string ⟨#[]⟩) ∧ w.cell? ⟨W.heap.size + 1, 1, none⟩ = some (.int .i64 0) ∧ w.cell? ⟨W.heap.size + 1, 2, none⟩ = some (.int .i64 0)) ∧ w.frozen? ⟨W.heap.size + 1, 0, none⟩ = false ∧ w.frozen? ⟨W.heap.size + 1, 1, none⟩ = false ∧ w.frozen? ⟨W.heap.size + 1, 2, none⟩ = false) := ⟨h.1.1, h.2.2⟩
set_option maxRecDepth 100000 in
set_option maxHeartbeats 1000000 in
theorem pfind_any (S T : Int) (L : List Ent) (s : Bool) (k : ByteArray) (a : Option Addr) (n cap : Nat) (w : World) (S0 : -9223372036854775808 ≤ S) (S1 : S ≤ 9223372036854775807) (T0 : -9223372036854775808 ≤ T) (T1 : T ≤ 9223372036854775807) (hk : k.size ≤ maxLen) (hr : RdE L (.slice a n cap) w) (hn : L.length ≤ 549755813888) :
    Calls Try.prog 27 #[.agg #[.int .i64 S, .int .i64 T, .slice a n cap, .bool s], .string k] w fun e w' =>
      e = .returned (.tuple #[.agg #[.string (findX S T L k).k, .int .i64 (findX S T L k).c, .int .i64 (findX S T L k).e], .bool (findB S T L k), .int .i64 (findE S T L k)]) ∧ Below w.heap.size w w' := by
  obtain ⟨a', cap', he⟩ := hr.shape
  simp only [Value.slice.injEq] at he
  obtain ⟨rfl, rfl, rfl⟩ := he
  have HR := Lib.hid hr
  have HV := Lib.hid (fun (w' : World) (hb : Below w.heap.size w w') => pval_any S T L s a L.length cap w' S0 S1 T0 T1 (hr.below hb) hn)
  have HK := Lib.hid hk
  have hit := fun w => isKey_any k w hk
  have M0 := Lib.hid (FnS.new w S T (.slice a L.length cap) s)
  clear hr hk
  unfold findX findB
  by_cases hE : valE S T L = 0
  · have hval := valE_ok hE
    rw [hE] at HV
    cases hF : keyB (byt k) with
    | true =>
      have e0 : findE S T L k = 0 := by unfold findE; rw [hE, if_neg (by decide), hF, if_neg (by simp)]
      rw [e0, if_neg (by decide), if_neg (by decide)]
      rw [hF] at hit
      have hone := hval.one'
      have HIX := Lib.hid (fun (w' : World) (hb : Below w.heap.size w w') => iof_any S T L s a L.length cap w' (HR.out.below hb) hn)
      have HFI := Lib.hid (fun (b : Nat) (w' : World) (hb : Below w.heap.size w w') (hp : PosM L L.length b w') => find_any L k (leastI S L) b a L.length cap w' (HR.out.below hb) hp hone HK.out hn)
      generalize entAt L k (leastI S L) = X at *
      generalize leastI S L = l at *
      generalize hasK L k = B at *
      clear hone hval hE hF e0
      go_enter Try.func27, Try.ntmps27
      go_wp2_with (first
        | (go_at_call 17; refine (HV.out _ M0.out.2.1).mono ?_; rintro e w2 ⟨rfl, hb2⟩; have M2 := Lib.hid (M0.out.go hb2); obtain ⟨⟨p0, p1, p2, p3⟩, ⟨o0, o1, o2⟩, g0, g1, g2⟩ := M2.out.cells; clear hb2)
        | (go_at_call 61; refine (hit _).mono ?_; rintro e w' ⟨rfl, rfl⟩)
        | (go_at_call 47; refine (HIX.out _ M2.out.2.1).mono ?_; rintro e w3 ⟨b, rfl, hp, hb3⟩; have M3 := Lib.hid (M2.out.go hb3); have HP3 := Lib.hid hp; clear hp hb3)
        | (go_at_call 48; refine (HFI.out _ _ M3.out.2.1 HP3.out).mono ?_; rintro e w4 ⟨rfl, hb4⟩; have M4 := Lib.hid (M3.out.go hb4); clear p0 p1 p2 p3 o0 o1 o2 g0 g1 g2; obtain ⟨⟨p0, p1, p2, p3⟩, ⟨o0, o1, o2⟩, g0, g1, g2⟩ := M4.out.cells; clear hb4))
      refine bodyPost_ret (v := .tuple #[.agg #[.string X.k, .int .i64 X.c, .int .i64 X.e], .bool B, .int .i64 0]) (by simp (config := { maxDischargeDepth := 8 }) [results, Try.results27, go_sem, *]) rfl ⟨rfl, ?_⟩
      have l3 : w.heap.size ≤ w.heap.size + 1 := by omega
      exact bset (bset (bset (bset (bset (bset M4.out.2.1 _ _ _ l3) _ _ _ l3) _ _ _ l3) _ _ _ l3) _ _ _ l3) _ _ _ l3
    | false =>
      have e0 : findE S T L k = 7 := by unfold findE; rw [hE, if_neg (by decide), hF, if_pos rfl]
      rw [e0, if_pos (by decide), if_pos (by decide)]
      rw [hF] at hit
      clear hval hE hF e0
      go_enter Try.func27, Try.ntmps27
      go_wp2_with (first
        | (go_at_call 17; refine (HV.out _ M0.out.2.1).mono ?_; rintro e w2 ⟨rfl, hb2⟩; have M2 := Lib.hid (M0.out.go hb2); obtain ⟨⟨p0, p1, p2, p3⟩, ⟨o0, o1, o2⟩, g0, g1, g2⟩ := M2.out.cells; clear hb2)
        | (go_at_call 61; refine (hit _).mono ?_; rintro e w' ⟨rfl, rfl⟩))
      refine bodyPost_ret (v := .tuple #[.agg #[.string ⟨#[]⟩, .int .i64 0, .int .i64 0], .bool false, .int .i64 7]) (by simp [results, Try.results27, go_sem, *]) rfl ⟨rfl, ?_⟩
      have l3 : w.heap.size ≤ w.heap.size + 1 := by omega
      exact bset (bset (bset M2.out.2.1 _ _ _ l3) _ _ _ l3) _ _ _ l3
  · have e0 : findE S T L k = valE S T L := by unfold findE; rw [if_pos hE]
    rw [e0, if_pos hE, if_pos hE]
    have hE2 : (valE S T L != 0) = true := by simpa using hE
    clear hE e0
    go_enter Try.func27, Try.ntmps27
    go_wp2_with (first
      | (go_at_call 17; refine (HV.out _ M0.out.2.1).mono ?_; rintro e w2 ⟨rfl, hb2⟩; have M2 := Lib.hid (M0.out.go hb2); obtain ⟨⟨p0, p1, p2, p3⟩, ⟨o0, o1, o2⟩, g0, g1, g2⟩ := M2.out.cells; clear hb2))
    refine bodyPost_ret (v := .tuple #[.agg #[.string ⟨#[]⟩, .int .i64 0, .int .i64 0], .bool false, .int .i64 (valE S T L)]) (by simp [results, Try.results27, go_sem, *]) rfl ⟨rfl, ?_⟩
    have l3 : w.heap.size ≤ w.heap.size + 1 := by omega
    exact bset (bset (bset M2.out.2.1 _ _ _ l3) _ _ _ l3) _ _ _ l3
end Go.Proofs.Ytcmekpdgikploaa
