/- The contract of sketchstorelaw5.known, and words on arguments. -/
import Derived.Test.YtginfmanaboibaaCoinPack
import Derived.Test.YtginfmanaboibaaArgs
import Derived.Test.YtginfmanaboibaaNums
namespace Go.Proofs.Ytginfmanaboibaa
open Go.RowKit
set_option linter.unusedVariables false
set_option linter.unusedSimpArgs false
/-- A literal's row, whatever its mark. -/
theorem Rd.lit {C : List Int} (hy : Byt C) (w : World) (hm : C.length ≤ maxLen) (fr : Nat × Nat) : Rd C (.slice (some ⟨w.heap.size, 0, none⟩) C.length C.length) (w.alloc (.cells (cells8 C).toArray 5 fr)) := by
  refine ⟨hy, _, _, rfl, Nat.le_refl _, hm, fun hp => ⟨w.heap.size, 0, rfl, by simp, fun j hj => ?_⟩⟩
  rw [Nat.zero_add, cell_of_row _ w.heap.size j (cells8 C).toArray 5 fr (Go.heap_alloc_new w _), List.getElem?_toArray]
  exact cells8_at hj
theorem RdI.lit {C : List Int} (hy : ∀ n ∈ C, -9223372036854775808 ≤ n ∧ n ≤ 9223372036854775807) (w : World) (hm : C.length ≤ maxLen) (fr : Nat × Nat) : RdI C (.slice (some ⟨w.heap.size, 0, none⟩) C.length C.length) (w.alloc (.cells (C.map (Value.int .i64)).toArray 3 fr)) := by
  refine ⟨hy, _, _, rfl, Nat.le_refl _, hm, fun hp => ⟨w.heap.size, 0, rfl, by simp, fun j hj => ?_⟩⟩
  rw [Nat.zero_add, cell_of_row _ w.heap.size j (C.map (Value.int .i64)).toArray 3 fr (Go.heap_alloc_new w _), List.getElem?_toArray]
  simp [List.getD, hj]
/-- A slice of bytes, of ints, that came in can be read. -/
theorem wf_bd8 {n : Int} (h : (Lit.int .u8 n).wf = true) : 0 ≤ n ∧ n ≤ 255 := by
  simpa [Lit.wf, IntKind.min, IntKind.max, IntKind.signed, IntKind.bits] using h
theorem inRow_rd {w : World} {a : Option Addr} {len cap : Nat} {z : List Int} (h : InRow .u8 w a len cap z) : Rd (z.take len) (.slice a len cap) w := by
  obtain ⟨h1, h2, h3, h4, h5⟩ := h
  have hl : (z.take len).length = len := by simp; omega
  refine ⟨fun n hn => wf_bd8 (h4 n (List.mem_of_mem_take hn)), a, cap, by rw [hl], by rw [hl]; exact h1, h2, fun hp => ?_⟩
  rw [hl] at hp
  obtain ⟨b, off, rfl, hb, hc⟩ := h5 (by omega)
  refine ⟨b, off, rfl, hb, fun j hj => ?_⟩
  rw [hl] at hj
  rw [hc j (by omega)]
  simp [List.getD, List.getElem?_take, hj]
theorem inRow_rdI {w : World} {a : Option Addr} {len cap : Nat} {z : List Int} (h : InRow .i64 w a len cap z) : RdI (z.take len) (.slice a len cap) w := by
  obtain ⟨h1, h2, h3, h4, h5⟩ := h
  have hl : (z.take len).length = len := by simp; omega
  refine ⟨fun n hn => wf_bd (h4 n (List.mem_of_mem_take hn)), a, cap, by rw [hl], by rw [hl]; exact h1, h2, fun hp => ?_⟩
  rw [hl] at hp
  obtain ⟨b, off, rfl, hb, hc⟩ := h5 (by omega)
  refine ⟨b, off, rfl, hb, fun j hj => ?_⟩
  rw [hl] at hj
  rw [hc j (by omega)]
  simp [List.getD, List.getElem?_take, hj]
theorem k_bit {L : List Int} {v : Value} {w : World} (h : Rd L v w) (i : Int) (i0 : -9223372036854775808 ≤ i) (i1 : i ≤ 9223372036854775807) {r : Int} (hr : bitI L i = r) :
    Calls Try.prog 8 #[v, .int .i64 i] w fun e w' => e = .returned (.int .i64 r) ∧ Below w.heap.size w w' := by
  subst hr
  exact (bit_any L v i w i0 i1 h).mono fun e w' ⟨he, n, hn⟩ => ⟨he, hn ▸ below_drewN' _ _ _⟩
theorem k_heads {L : List Int} {v : Value} {w : World} (h : Rd L v w) (hl : L.length ≤ 1000) (f t : Int) (f0 : -9223372036854775808 ≤ f) (f1 : f ≤ 9223372036854775807) (t0 : -9223372036854775808 ≤ t) (t1 : t ≤ 9223372036854775807) {r : Int} (hr : headsI L f t = r) :
    Calls Try.prog 12 #[v, .int .i64 f, .int .i64 t] w fun e w' => e = .returned (.int .i64 r) ∧ Below w.heap.size w w' := by
  subst hr
  exact (heads_any L v f t w f0 f1 t0 t1 hl h).mono fun e w' ⟨he, n, hn⟩ => ⟨he, hn ▸ below_drewN' _ _ _⟩
theorem k_pack {Z C : List Int} {v : Value} {w : World} (h : RdI Z v w) (hl : Z.length ≤ 1000) (hC : pk Z ((Z.length + 7) / 8) Z.length = C) :
    Calls Try.prog 10 #[v] w fun e w' => ∃ v', e = .returned v' ∧ Own w.heap.size C v' w' ∧ Below w.heap.size w w' := by
  subst hC
  exact pack_any Z v w hl h
set_option maxRecDepth 100000 in
set_option maxHeartbeats 1000000 in
theorem known_any (w : World) : Calls Try.prog 7 #[] w fun e w' => e = .returned (.bool true) ∧ Below w.heap.size w w' := by
  have hp := fun (fr : Nat × Nat) => k_pack (C := [160]) (RdI.lit (C := [1, 0, 1]) (by intro n hn; simp at hn; omega) w (by simp [maxLen]) fr) (by decide) (by decide +kernel)
  have h1 := fun w : World => k_bit (r := 1) (v := .slice (some ⟨w.heap.size, 0, none⟩) 1 1) (w := w.alloc (.cells #[.int .u8 128] 5)) (Rd.lit (C := [128]) (by intro n hn; simp at hn; omega) w (by simp [maxLen]) (0, 0)) 0 (by decide) (by decide) (by decide +kernel)
  have h2 := fun w : World => k_bit (r := 0) (v := .slice (some ⟨w.heap.size, 0, none⟩) 1 1) (w := w.alloc (.cells #[.int .u8 128] 5)) (Rd.lit (C := [128]) (by intro n hn; simp at hn; omega) w (by simp [maxLen]) (0, 0)) 1 (by decide) (by decide) (by decide +kernel)
  have h3 := fun (v : Value) (w : World) (h : Rd [160] v w) => k_heads (r := 2) h (by decide) 0 9 (by decide) (by decide) (by decide) (by decide) (by decide +kernel)
  go_enter Try.func7, Try.ntmps7
  go_wp2_with (first
    | (go_at_call 10; refine (hp (0, 0)).mono ?_; rintro e w1 ⟨v1, rfl, o1, b1⟩; have O1 := Lib.hid o1; obtain ⟨a1, p1, rfl⟩ := o1.shape; obtain ⟨g, rfl, hgB, hcl, _⟩ := o1.cells (by decide); have c0 : w1.cell? ⟨g, 0, none⟩ = some (.int .u8 160) := (hcl 0 (by decide)).1; have B1 := Lib.hid (((Below.refl _ w).alloc (Nat.le_refl _) _).trans (b1.mono (by simp))); clear hcl o1 b1)
    | (go_at_call 8; first
      | ((with_reducible refine (h1 _).mono ?_); rintro e w2 ⟨rfl, b2⟩; have B2 := Lib.hid (((Below.refl _ w1).alloc (Nat.le_refl _) _).trans (b2.mono (by simp))); clear b2 h1)
      | ((with_reducible refine (h2 _).mono ?_); rintro e w3 ⟨rfl, b3⟩; have B3 := Lib.hid (B2.out.trans ((((Below.refl _ w2).alloc (Nat.le_refl _) _).trans (b3.mono (by simp))).mono B2.out.size)); clear b3 h2))
    | (go_at_call 12; refine (h3 _ _ (O1.out.below B3.out).rd).mono ?_; rintro e w4 ⟨rfl, b4⟩))
  go_ret
  exact ⟨rfl, B1.out.trans ((B3.out.trans (b4.mono B3.out.size)).mono B1.out.size)⟩
end Go.Proofs.Ytginfmanaboibaa
