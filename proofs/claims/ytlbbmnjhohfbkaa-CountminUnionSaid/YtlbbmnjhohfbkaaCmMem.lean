/- Count-Min sketches in memory: cells of a struct; the contracts of countmin.cellNumber, addresses, raise, and of slices.Clone of ints. -/
import Derived.Test.YtlbbmnjhohfbkaaCmCol
import Derived.Laws.Cover3
import Derived.Laws.FloatArith
import Derived.Lib.SliceRun
namespace Go.Proofs.Ytlbbmnjhohfbkaa
open Go.RowKit
set_option linter.unusedVariables false
set_option linter.unusedSimpArgs false
/-- An address: a row and a column as floats. -/
def flN (n : Nat) : Nat := floatOfInt .f64 (n : Int)
theorem fl_back : ∀ i : Fin 64, floatToIntVal .f64 (flN i.val) .i64 = some (i.val : Int) := by decide +kernel
theorem fl_int (n : Nat) (h : n < 64) (w : World) : (convert 89 3 (.float .f64 (flN n))).run Try.prog w = .ok (.int .i64 n) w :=
  run_convert_float_int w 89 3 .f64 .i64 _ _ (by rw [Try.underlying89]; rfl) Try.underlying3 (fl_back ⟨n, h⟩)
theorem int_fl (n : Nat) (w : World) : (convert 3 89 (.int .i64 n)).run Try.prog w = .ok (.float .f64 (flN n)) w :=
  run_convert_int_float w 3 89 .i64 .f64 n (by rw [Try.underlying3]; rfl) Try.underlying89
def adr (r c : Nat) : Value := .complex .f64 (flN r) (flN c)
theorem cnum_any (r c : Nat) (S : Int) (w : World) (hr : r < 64) (hc : c < 64) (S0 : 0 ≤ S) (S1 : S ≤ 64) :
    Calls Try.prog 48 #[.complex .f64 (flN r) (flN c), .int .i64 S] w fun e w' => e = .returned (.int .i64 ((r : Int) * S + c)) ∧ w = w' := by
  have h1 := fun w => fl_int r hr w
  have h2 := fun w => fl_int c hc w
  have hm : 0 ≤ (r : Int) * S := Int.mul_nonneg (by omega) S0
  have hm2 : (r : Int) * S ≤ 64 * 64 := Int.mul_le_mul (by omega) S1 S0 (by omega)
  generalize flN r = p at *
  generalize flN c = q at *
  go_enter Try.func48, Try.ntmps48
  go_wp2
  go_ret
  exact ⟨rfl, rfl⟩
/-- A struct of five cells in memory: a sketch. -/
def CSt (g : Nat) (D S x : Int) (v : Value) (s : Bool) (w : World) : Prop :=
  (w.cell? ⟨g, 0, none⟩ = some (.int .i64 D) ∧ w.cell? ⟨g, 1, none⟩ = some (.int .i64 S) ∧ w.cell? ⟨g, 2, none⟩ = some (.int .u64 x) ∧ w.cell? ⟨g, 3, none⟩ = some v ∧ w.cell? ⟨g, 4, none⟩ = some (.bool s)) ∧
    w.frozen? ⟨g, 0, none⟩ = false ∧ w.frozen? ⟨g, 1, none⟩ = false ∧ w.frozen? ⟨g, 2, none⟩ = false ∧ w.frozen? ⟨g, 3, none⟩ = false ∧ w.frozen? ⟨g, 4, none⟩ = false
theorem CSt.keep {g : Nat} {D S x : Int} {v : Value} {s : Bool} {w w' : World} (h : CSt g D S x v s w) (hb : w'.heap[g]? = w.heap[g]?) : CSt g D S x v s w' := by
  obtain ⟨⟨h0, h1, h2, h3, h4⟩, f0, f1, f2, f3, f4⟩ := h
  have hc : ∀ o, w'.cell? ⟨g, o, none⟩ = w.cell? ⟨g, o, none⟩ := fun o => World.cell?_of_block (w := w) (a := ⟨g, o, none⟩) hb
  have hf : ∀ o, w'.frozen? ⟨g, o, none⟩ = w.frozen? ⟨g, o, none⟩ := fun o => World.frozen?_of_block (w := w) (a := ⟨g, o, none⟩) hb
  exact ⟨⟨(hc _).trans h0, (hc _).trans h1, (hc _).trans h2, (hc _).trans h3, (hc _).trans h4⟩, (hf _).trans f0, (hf _).trans f1, (hf _).trans f2, (hf _).trans f3, (hf _).trans f4⟩
theorem CSt.below {g : Nat} {D S x : Int} {v : Value} {s : Bool} {w w' : World} (h : CSt g D S x v s w) {B : Nat} (hb : Below B w w') (hg : g < B) : CSt g D S x v s w' := h.keep (hb.block g hg)
theorem CSt.far {g : Nat} {D S x : Int} {v : Value} {s : Bool} {w : World} (h : CSt g D S x v s w) {b : Nat} (hb : g ≠ b) (o : Nat) (u : Value) : CSt g D S x v s (w.setCell ⟨b, o, none⟩ u) :=
  h.keep (Below.heap_setCell w ⟨b, o, none⟩ u g hb)
theorem CSt.setS {g : Nat} {D S x : Int} {v : Value} {s : Bool} {w : World} (h : CSt g D S x v s w) (t : Bool) : CSt g D S x v t (w.setCell ⟨g, 4, none⟩ (.bool t)) := by
  obtain ⟨⟨h0, h1, h2, h3, h4⟩, f0, f1, f2, f3, f4⟩ := h
  exact ⟨⟨by go_simp, by go_simp, by go_simp, by go_simp, by go_simp⟩, by go_simp, by go_simp, by go_simp, by go_simp, by go_simp⟩
theorem CSt.setV {g : Nat} {D S x : Int} {v : Value} {s : Bool} {w : World} (h : CSt g D S x v s w) (u : Value) (hu : u.oneCell' = true := by rfl) : CSt g D S x u s (w.setCell ⟨g, 3, none⟩ u) := by
  obtain ⟨⟨h0, h1, h2, h3, h4⟩, f0, f1, f2, f3, f4⟩ := h
  exact ⟨⟨by go_simp, by go_simp, by go_simp, by go_simp, by go_simp⟩, by go_simp, by go_simp, by go_simp, by go_simp, by go_simp⟩
theorem CSt.new (D S x : Int) (v : Value) (s : Bool) (t : TypeId) (w : World) : CSt w.heap.size D S x v s (w.alloc (.cells #[.int .i64 D, .int .i64 S, .int .u64 x, v, .bool s] t)) := by
  exact ⟨⟨by go_simp, by go_simp, by go_simp, by go_simp, by go_simp⟩, by go_simp, by go_simp, by go_simp, by go_simp, by go_simp⟩
set_option maxRecDepth 100000 in
theorem raise_any (g b i n cap : Nat) (c m : Int) (s : Bool) (w : World) (hi : i < n) (hn : n ≤ 1000) (c0 : -9223372036854775808 ≤ c) (c1 : c ≤ 9223372036854775807) (m0 : -9223372036854775808 ≤ m) (m1 : m ≤ 9223372036854775807)
    (h3 : w.cell? ⟨g, 3, none⟩ = some (.slice (some ⟨b, 0, none⟩) n cap)) (h4 : w.cell? ⟨g, 4, none⟩ = some (.bool s)) (f4 : w.frozen? ⟨g, 4, none⟩ = false) (hc : w.cell? ⟨b, i, none⟩ = some (.int .i64 c)) (hf : w.frozen? ⟨b, i, none⟩ = false) (hne : ¬ g = b) (hne' : ¬ b = g) :
    Calls Try.prog 47 #[.pointer (some ⟨g, 0, none⟩), .int .i64 i, .int .i64 m] w fun e w' =>
      e = .returned (.tuple #[]) ∧ w' = (w.setCell ⟨b, i, none⟩ (.int .i64 (sumT c m))).setCell ⟨g, 4, none⟩ (.bool (s || sumF c m)) := by
  have h1 := fun w => add_count c m w c0 c1 m0 m1
  have hi2 : (i : Int) < (n : Int) := by omega
  generalize sumT c m = A at *
  generalize sumF c m = F at *
  cases s
  all_goals
    go_enter Try.func47, Try.ntmps47
    go_wp2_with (go_at_call 65; ((with_reducible refine (h1 _).mono ?_); rintro e w' ⟨rfl, rfl⟩))
    refine bodyPost_end (v := .tuple #[]) (by simp [results, Try.results47, go_sem]) rfl ⟨rfl, ?_⟩
    rfl
theorem OwnI.newNil (w : World) : OwnI w.heap.size [] (.slice (some ⟨w.heap.size, 0, none⟩) 0 0) (w.alloc (.cells #[] 3)) :=
  ⟨Rng.nil, rfl, .inr ⟨w.heap.size, 0, #[], rfl, Nat.le_refl _, Go.heap_alloc_new w _, Nat.le_refl _, by decide, rfl, rfl⟩⟩
set_option maxRecDepth 100000 in
theorem clone_any (L : List Int) (a : Option Addr) (n cap : Nat) (w : World) (h : RdI L (.slice a n cap) w) (hn : L.length ≤ 17592186044416) :
    Calls Try.prog 45 #[.slice a n cap] w fun e w' => ∃ v, e = .returned v ∧ OwnI w.heap.size L v w' ∧ Below w.heap.size w w' := by
  have HR := Lib.hid h
  cases a with
  | none =>
    obtain ⟨hy, a, cap', he, h1, h2, h3⟩ := h
    have hl : L = [] := by
      apply List.eq_nil_of_length_eq_zero
      cases Nat.eq_zero_or_pos L.length with
      | inl h => exact h
      | inr h => obtain ⟨b, off, hb, _⟩ := h3 h; subst hb; cases he
    subst hl
    clear he h3 hy h1 h2
    have hq := fun w => Go.Lib.run_eql_slice_nil w 24 3 none n cap 0 0 Try.underlying24
    go_enter Try.func45, Try.ntmps45
    go_wp2
    go_ret
    exact ⟨_, rfl, OwnI.empty _ _, Below.refl _ _⟩
  | some ad =>
    have HS := Lib.hid (RdI.below h (b1 (.cells #[] 3))).src
    have HO := Lib.hid (OwnI.newNil w)
    clear h
    have hq := fun w => Go.Lib.run_eql_slice_nil w 24 3 (some ad) n cap 0 0 Try.underlying24
    go_enter Try.func45, Try.ntmps45
    go_wp2_with (at_builtin; refine wp_appI rfl _ _ _ rfl w.heap.size [] L _ _ rfl rfl HO.out HS.out ?c1 ?c2 ?_)
    case c1 => simp
    case c2 => simpa using hn
    intro v' w' ho hb
    have HO' := Lib.hid ho
    have HB' := Lib.hid hb
    clear ho hb
    go_wp2
    go_ret
    exact ⟨_, rfl, HO'.out, (b1 _).trans HB'.out⟩
end Go.Proofs.Ytlbbmnjhohfbkaa
