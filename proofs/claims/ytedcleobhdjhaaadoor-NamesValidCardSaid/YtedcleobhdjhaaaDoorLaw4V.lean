/- The walk of the law NamesValid. -/
import Derived.Test.YtedcleobhdjhaaaDoorKnown4
import Derived.Test.YtedcleobhdjhaaaDoorNums
import Derived.Deep.RegionHeld3
namespace Go.Proofs.YtedcleobhdjhaaaDoor
open Go.RowKit
set_option linter.unusedVariables false
set_option linter.unusedSimpArgs false
set_option maxRecDepth 100000 in
set_option maxHeartbeats 1000000 in
theorem namesValid_walk (s : ByteArray) (n : Int) (W : World) (ws : s.size ≤ maxLen) (wn : (Lit.int .i64 n).wf = true) (ht : Tab10 W) :
    Calls Tryd.prog 3 #[.string s, .int .i64 n] W fun e w' => e = .returned (.bool true) ∧ Below W.heap.size W w' := by
  have hb := wf_bd wn
  have h1 := fun w => isName_any s w ws
  have h2 := fun w => risName_any s w ws
  have h3 := fun w => isKey_any s w ws
  have h4 := fun w => risKey_any s w ws
  have h5 := fun w => item_any s n w ws hb.1 hb.2
  have h6 := fun w => ritem_any s n w ws hb.1 hb.2
  have h7 := fun w (hb : Below W.heap.size W w) => known_any w (ht.below hb)
  generalize nameB (byt s) = A at *
  generalize keyB (byt s) = B at *
  generalize itemE (byt s) n = C at *
  clear ht wn ws
  go_enter Tryd.func3, Tryd.ntmps3
  go_wp2
  have hB1 : Below W.heap.size W (W.alloc (Obj.cells #[Value.string s, Value.int IntKind.i64 n] 23)) := (Below.refl _ _).alloc (Nat.le_refl _) _
  have hc0 : (W.alloc (Obj.cells #[Value.string s, Value.int IntKind.i64 n] 23)).cell? ⟨W.heap.size, 0, none⟩ = some (.string s) := by go_simp
  have hc1 : (W.alloc (Obj.cells #[Value.string s, Value.int IntKind.i64 n] 23)).cell? ⟨W.heap.size, 1, none⟩ = some (.int .i64 n) := by go_simp
  have hlt : W.heap.size < (W.alloc (Obj.cells #[Value.string s, Value.int IntKind.i64 n] 23)).heap.size := by simp
  generalize W.alloc (Obj.cells #[Value.string s, Value.int IntKind.i64 n] 23) = x1 at *
  have SB : ∀ w w' : World, (Below x1.heap.size x1 w ∧ w.cell? ⟨W.heap.size, 0, none⟩ = some (.string s) ∧ w.cell? ⟨W.heap.size, 1, none⟩ = some (.int .i64 n)) → Below w.heap.size w w' →
      (Below x1.heap.size x1 w' ∧ w'.cell? ⟨W.heap.size, 0, none⟩ = some (.string s) ∧ w'.cell? ⟨W.heap.size, 1, none⟩ = some (.int .i64 n)) := by
    rintro w w' ⟨a, b, c⟩ h
    have hz := a.size
    exact ⟨a.trans (h.mono hz), (h.cell (p := ⟨W.heap.size, 0, none⟩) (by simp; omega)).trans b, (h.cell (p := ⟨W.heap.size, 1, none⟩) (by simp; omega)).trans c⟩
  have h7 := fun w (hb : (Below x1.heap.size x1 w ∧ w.cell? ⟨W.heap.size, 0, none⟩ = some (.string s) ∧ w.cell? ⟨W.heap.size, 1, none⟩ = some (.int .i64 n))) => h7 w (hB1.trans (hb.1.mono hB1.size))
  have HB1 := Lib.hid hB1
  have HLT := Lib.hid hlt
  clear hB1 hlt
  go_region_held3 (fun w' => Below x1.heap.size x1 w' ∧ w'.cell? ⟨W.heap.size, 0, none⟩ = some (.string s) ∧ w'.cell? ⟨W.heap.size, 1, none⟩ = some (.int .i64 n)) (first | assumption | exact ⟨(Below.refl _ _).drew, hc0, hc1⟩) (first
    | (go_at_call 9; refine (h1 _).mono ?_; rintro e w' ⟨rfl, rfl⟩)
    | (go_at_call 10; refine (h2 _).mono ?_; rintro e w' ⟨rfl, rfl⟩)
    | (go_at_call 11; refine (h3 _).mono ?_; rintro e w' ⟨rfl, rfl⟩)
    | (go_at_call 12; refine (h4 _).mono ?_; rintro e w' ⟨rfl, rfl⟩)
    | (go_at_call 13; refine (h5 _).mono ?_; rintro e w' ⟨rfl, hbl⟩; have S1 := SB _ w' (by assumption) hbl; clear hbl)
    | (go_at_call 14; refine (h6 _).mono ?_; rintro e w' ⟨rfl, hbl⟩; have S1 := SB _ w' (by assumption) hbl; clear hbl)
    | (go_at_call 15; refine (h7 _ (by assumption)).mono ?_; rintro e w' ⟨rfl, hbl⟩; have S1 := SB _ w' (by assumption) hbl; clear hbl))
  go_wp2
  go_ret
  rename_i hS
  exact ⟨rfl, HB1.out.trans (hS.1.mono HB1.out.size)⟩
end Go.Proofs.YtedcleobhdjhaaaDoor
