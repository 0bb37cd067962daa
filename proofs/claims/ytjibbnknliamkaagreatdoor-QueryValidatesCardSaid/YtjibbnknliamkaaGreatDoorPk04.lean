/- TopN, OrdC: in one text. -/
import Derived.Test.YtjibbnknliamkaaGreatDoorPk03
import Derived.Test.YtjibbnknliamkaaGreatDoorPk00
namespace Go.Proofs.YtjibbnknliamkaaGreatDoor
open Go.RowKit
set_option linter.unusedVariables false
set_option linter.unusedSimpArgs false
structure TP where
  S : Int
  T : Int
  L : List Ent
  s : Bool
def TP.none : TP := ⟨0, 0, [], false⟩
/-- A summary that can be read. -/
def RdT (t : TP) (v : Value) (w : World) : Prop := ∃ a n cap, v = .agg #[.int .i64 t.S, .int .i64 t.T, .slice a n cap, .bool t.s] ∧ RdE t.L (.slice a n cap) w
theorem RdT.below {t : TP} {v : Value} {w w' : World} (h : RdT t v w) (hb : Below w.heap.size w w') : RdT t v w' := by
  obtain ⟨a, n, cap, rfl, h⟩ := h
  exact ⟨a, n, cap, rfl, h.below hb⟩
/-- A summary of the call's own. -/
def OwnT (B : Nat) (t : TP) (v : Value) (w : World) : Prop := ∃ a n cap, v = .agg #[.int .i64 t.S, .int .i64 t.T, .slice a n cap, .bool t.s] ∧ OwnE B t.L (.slice a n cap) w
theorem OwnT.rd {B : Nat} {t : TP} {v : Value} {w : World} (h : OwnT B t v w) : RdT t v w := by
  obtain ⟨a, n, cap, rfl, h⟩ := h
  exact ⟨a, n, cap, rfl, h.rd⟩
theorem OwnT.below {B : Nat} {t : TP} {v : Value} {w w' : World} (h : OwnT B t v w) (hb : Below w.heap.size w w') : OwnT B t v w' := by
  obtain ⟨a, n, cap, rfl, h⟩ := h
  exact ⟨a, n, cap, rfl, h.below hb⟩
/-- A struct of four cells in memory: a summary. -/
def TopS (g : Nat) (S T : Int) (v : Value) (s : Bool) (w : World) : Prop :=
  (w.cell? ⟨g, 0, none⟩ = some (.int .i64 S) ∧ w.cell? ⟨g, 1, none⟩ = some (.int .i64 T) ∧ w.cell? ⟨g, 2, none⟩ = some v ∧ w.cell? ⟨g, 3, none⟩ = some (.bool s)) ∧
    w.frozen? ⟨g, 0, none⟩ = false ∧ w.frozen? ⟨g, 1, none⟩ = false ∧ w.frozen? ⟨g, 2, none⟩ = false ∧ w.frozen? ⟨g, 3, none⟩ = false
theorem TopS.keep {g : Nat} {S T : Int} {v : Value} {s : Bool} {w w' : World} (h : TopS g S T v s w) (hb : w'.heap[g]? = w.heap[g]?) : TopS g S T v s w' := by
  obtain ⟨⟨h0, h1, h2, h3⟩, f0, f1, f2, f3⟩ := h
  have hc : ∀ o, w'.cell? ⟨g, o, none⟩ = w.cell? ⟨g, o, none⟩ := fun o => World.cell?_of_block (w := w) (a := ⟨g, o, none⟩) hb
  have hf : ∀ o, w'.frozen? ⟨g, o, none⟩ = w.frozen? ⟨g, o, none⟩ := fun o => World.frozen?_of_block (w := w) (a := ⟨g, o, none⟩) hb
  exact ⟨⟨(hc _).trans h0, (hc _).trans h1, (hc _).trans h2, (hc _).trans h3⟩, (hf _).trans f0, (hf _).trans f1, (hf _).trans f2, (hf _).trans f3⟩
theorem TopS.below {g : Nat} {S T : Int} {v : Value} {s : Bool} {w w' : World} (h : TopS g S T v s w) {B : Nat} (hb : Below B w w') (hg : g < B) : TopS g S T v s w' := h.keep (hb.block g hg)
theorem TopS.new (S T : Int) (v : Value) (s : Bool) (t : TypeId) (w : World) : TopS w.heap.size S T v s (w.alloc (.cells #[.int .i64 S, .int .i64 T, v, .bool s] t)) := by
  exact ⟨⟨by go_simp, by go_simp, by go_simp, by go_simp⟩, by go_simp, by go_simp, by go_simp, by go_simp⟩
theorem TopS.lt {g : Nat} {S T : Int} {v : Value} {s : Bool} {w : World} (h : TopS g S T v s w) : g < w.heap.size := by
  have h0 := h.1.1
  unfold World.cell? at h0
  cases hb : w.heap[g]? with
  | none => simp [hb] at h0
  | some o => exact (Array.getElem?_eq_some_iff.1 hb).1
/-- What is wrong with an entry. -/
def entE (x : Ent) : Int := if keyB (byt x.k) = false then 7 else if x.c < 1 ∨ 1099511627776 < x.c ∨ x.e < 0 ∨ x.c ≤ x.e then 5 else 0
/-- What is wrong at position i. -/
def errAt (L : List Ent) (i : Nat) : Int :=
  if entE (L.getD i Ent.z) ≠ 0 then entE (L.getD i Ent.z) else if hasK (L.take i) (L.getD i Ent.z).k = true then 9 else if 0 < i ∧ bef (L.getD (i - 1) Ent.z) (L.getD i Ent.z) = false then 19 else 0
/-- The first error among the m entries from i on. -/
def vgo (L : List Ent) : Nat → Nat → Int
  | 0, _ => 0
  | m + 1, i => if errAt L i ≠ 0 then errAt L i else vgo L m (i + 1)
def valE (S T : Int) (L : List Ent) : Int := if S < 1 ∨ 32 < S ∨ T < 0 ∨ 1099511627776 < T then 5 else if S < L.length then 11 else vgo L L.length 0
theorem entE_cases (x : Ent) : entE x = 0 ∨ entE x = 7 ∨ entE x = 5 := by
  unfold entE
  split
  · exact .inr (.inl rfl)
  · split
    · exact .inr (.inr rfl)
    · exact .inl rfl
end Go.Proofs.YtjibbnknliamkaaGreatDoor
namespace Go.Proofs.YtjibbnknliamkaaGreatDoor
open Go.RowKit
set_option linter.unusedVariables false
set_option linter.unusedSimpArgs false
set_option maxRecDepth 100000 in
set_option maxHeartbeats 4000000 in
theorem compare_any (x y : Ent) (w : World) : Calls Tryz.prog 144 #[.agg #[.string x.k, .int .i64 x.c, .int .i64 x.e], .agg #[.string y.k, .int .i64 y.c, .int .i64 y.e]] w fun e w' =>
      e = .returned (.int .i64 (cmpE x y)) ∧ Below w.heap.size w w' := by
  have h1 := fun w => cmpi_any y.c x.c w
  have h2 := fun w => scmp_any x.k y.k w
  have h3 := fun g w h0 h1 => or_any (cmpI y.c x.c) (Lib.compareBytes x.k.data.toList y.k.data.toList) g w h0 h1
  rw [or2_cmp] at h3
  obtain ⟨k, c, e⟩ := x
  obtain ⟨k', c', e'⟩ := y
  dsimp only at h1 h2 h3 ⊢
  generalize cmpE ⟨k, c, e⟩ ⟨k', c', e'⟩ = R at *
  generalize cmpI c' c = p at *
  generalize Lib.compareBytes k.data.toList k'.data.toList = q at *
  go_enter Tryz.func144, Tryz.ntmps144
  go_wp2
  go_region_law (go_simp; first
    | (go_at_call 93; refine (h1 _).mono ?_; rintro e w' ⟨rfl, rfl⟩)
    | (go_at_call 94; refine (h2 _).mono ?_; rintro e w' ⟨rfl, rfl⟩)
    | (go_at_call 92; refine (h3 _ _ (by go_simp) (by go_simp)).mono ?_; rintro e w' ⟨rfl, rfl⟩))
  all_goals
    go_wp2
    go_ret
    exact ⟨rfl, by first | exact bal (b2 _ _) _ | exact (bal (b2 _ _) _).drew | exact (bal (b2 _ _) _).drewN _⟩
end Go.Proofs.YtjibbnknliamkaaGreatDoor
