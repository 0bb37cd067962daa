/- RkH, RkU, RkI, Sk: in one text. -/
import Derived.Test.YtjibbnknliamkaaGreatDoorPk10
import Derived.Test.YtjibbnknliamkaaGreatDoorPk00
import Derived.Test.YtjibbnknliamkaaGreatDoorProg
import Derived.Test.YtjibbnknliamkaaGreatDoorPk08
import Derived.Test.YtjibbnknliamkaaGreatDoorPk05
import Derived.Test.YtjibbnknliamkaaGreatDoorPk02
import Derived.Test.YtjibbnknliamkaaGreatDoorPk06
import Derived.Test.YtjibbnknliamkaaGreatDoorPk07
import Derived.Deep.RegionLaw
import Derived.BigQuiet
import Derived.WalkKit
import Derived.ProofKit
import Derived.Handy
import Derived.Shelf.Small.Bits
import Derived.Shelf.Strconv.Itoa0
import Derived.Shelf.Bits.Mul64
import Derived.Shelf.Spec.TrailingZeros
import Derived.ScopeJumps
import Derived.WalkMore
namespace Go.Proofs.YtjibbnknliamkaaGreatDoor
open Go.RowKit
set_option linter.unusedVariables false
set_option linter.unusedSimpArgs false
section
variable {g : Nat} {v : Value} {a K : Int} {w w' : World}
end
section
variable {W : World} {gf : Nat} {v : Value} {a K : Int} {g c : Nat} {C : List (List ByteArray)} {us : List Value} {w w' : World}
end
end Go.Proofs.YtjibbnknliamkaaGreatDoor
namespace Go.Proofs.YtjibbnknliamkaaGreatDoor
open Go.RowKit
set_option linter.unusedVariables false
set_option linter.unusedSimpArgs false
theorem RdL_2.none_ (w : World) : RdL_2 [] (.slice none 0 0) w := ⟨[], (OwnV.empty 0 w).rd, rfl, fun j hj => by cases hj⟩
theorem RsS.new1 (S T K : Int) (v : Value) (s : Bool) (t : TypeId) (p q : Obj) (w : World) : RsS w.heap.size S T K v s (((w.alloc (.cells #[.int .i64 S, .int .i64 T, .int .i64 K, v, .bool s] t)).alloc p).alloc q) := (RsS.new S T K v s t w).go (b2 p q)
theorem RsS.new2 (S T K : Int) (v : Value) (s : Bool) (t : TypeId) (o q : Obj) (w : World) : RsS (w.heap.size + 1) S T K v s (((w.alloc o).alloc (.cells #[.int .i64 S, .int .i64 T, .int .i64 K, v, .bool s] t)).alloc q) := by
  have h := (RsS.new S T K v s t (w.alloc o)).go (b1 q)
  rw [show (w.alloc o).heap.size = w.heap.size + 1 by simp] at h
  exact h
/-- Levels that stay readable whatever turns below block B. -/
def RdU (B : Nat) (L : List (List ByteArray)) (us : List Value) (v : Value) (w : World) : Prop := ∀ w' : World, w.heap.size ≤ w'.heap.size → (∀ g, B ≤ g → g < w.heap.size → w'.heap[g]? = w.heap[g]?) → RdV us v w' ∧ AllR L us w'
def RdB (B : Nat) (L : List (List ByteArray)) (v : Value) (w : World) : Prop := ∃ us, RdU B L us v w
theorem RdB.rd {B : Nat} {L : List (List ByteArray)} {v : Value} {w : World} (h : RdB B L v w) : RdL_2 L v w := by
  obtain ⟨us, h⟩ := h
  exact ⟨us, h w (Nat.le_refl _) (fun _ _ _ => rfl)⟩
theorem RdU.keep {B : Nat} {L : List (List ByteArray)} {us : List Value} {v : Value} {w w1 : World} (h : RdU B L us v w) (hs : w.heap.size ≤ w1.heap.size) (hk : ∀ g, B ≤ g → g < w.heap.size → w1.heap[g]? = w.heap[g]?) : RdU B L us v w1 :=
  fun w' h1 h2 => h w' (Nat.le_trans hs h1) (fun g hg hl => (h2 g hg (Nat.lt_of_lt_of_le hl hs)).trans (hk g hg hl))
theorem RdB.keep {B : Nat} {L : List (List ByteArray)} {v : Value} {w w1 : World} (h : RdB B L v w) (hs : w.heap.size ≤ w1.heap.size) (hk : ∀ g, B ≤ g → g < w.heap.size → w1.heap[g]? = w.heap[g]?) : RdB B L v w1 := by
  obtain ⟨us, h⟩ := h
  exact ⟨us, h.keep hs hk⟩
theorem RdB.below {B : Nat} {L : List (List ByteArray)} {v : Value} {w w1 : World} (h : RdB B L v w) (hb : Below w.heap.size w w1) : RdB B L v w1 := h.keep hb.size (fun g _ hl => hb.block g hl)
theorem RdB.mono {B B' : Nat} {L : List (List ByteArray)} {v : Value} {w : World} (h : RdB B L v w) (hB : B' ≤ B) : RdB B' L v w := by
  obtain ⟨us, h⟩ := h
  exact ⟨us, fun w' h1 h2 => h w' h1 (fun g hg hl => h2 g (Nat.le_trans hB hg) hl)⟩
theorem RdB.none_ (B : Nat) (w : World) : RdB B [] (.slice none 0 0) w := ⟨[], fun w' _ _ => ⟨(OwnV.empty 0 w').rd, rfl, fun j hj => by cases hj⟩⟩
def RbR (B : Nat) (t : RK) (v : Value) (w : World) : Prop := ∃ a n cap, v = .agg #[.int .i64 t.S, .int .i64 t.T, .int .i64 t.K, .slice a n cap, .bool t.s] ∧ RdB B t.L (.slice a n cap) w
theorem RbR.rd {B : Nat} {t : RK} {v : Value} {w : World} (h : RbR B t v w) : RdR t v w := by
  obtain ⟨a, n, c, rfl, h⟩ := h
  exact ⟨a, n, c, rfl, h.rd⟩
theorem RbR.below {B : Nat} {t : RK} {v : Value} {w w' : World} (h : RbR B t v w) (hb : Below w.heap.size w w') : RbR B t v w' := by
  obtain ⟨a, n, c, rfl, h⟩ := h
  exact ⟨a, n, c, rfl, h.below hb⟩
theorem RbR.mono {B B' : Nat} {t : RK} {v : Value} {w : World} (h : RbR B t v w) (hB : B' ≤ B) : RbR B' t v w := by
  obtain ⟨a, n, c, rfl, h⟩ := h
  exact ⟨a, n, c, rfl, h.mono hB⟩
theorem RbR.run {B : Nat} {t : RK} {v : Value} {w : World} (h : RbR B t v w) : ∃ a c, v = .agg #[.int .i64 t.S, .int .i64 t.T, .int .i64 t.K, .slice a t.L.length c, .bool t.s] ∧ RdB B t.L (.slice a t.L.length c) w := by
  obtain ⟨a, n, c, rfl, h⟩ := h
  obtain ⟨a', c', he⟩ := h.rd.shape
  simp only [Value.slice.injEq] at he
  obtain ⟨rfl, rfl, rfl⟩ := he
  exact ⟨a, c, rfl, h⟩
theorem RdR.run {t : RK} {v : Value} {w : World} (h : RdR t v w) : ∃ a c, v = .agg #[.int .i64 t.S, .int .i64 t.T, .int .i64 t.K, .slice a t.L.length c, .bool t.s] ∧ RdL_2 t.L (.slice a t.L.length c) w := by
  obtain ⟨a, n, c, rfl, h⟩ := h
  obtain ⟨a', c', he⟩ := h.shape
  simp only [Value.slice.injEq] at he
  obtain ⟨rfl, rfl, rfl⟩ := he
  exact ⟨a, c, rfl, h⟩
end Go.Proofs.YtjibbnknliamkaaGreatDoor
namespace Go.Proofs.YtjibbnknliamkaaGreatDoor
open Go.RowKit
set_option linter.unusedVariables false
set_option linter.unusedSimpArgs false
/-- A new summary. -/
def newR (S : Int) : RK := if szR S = true then ⟨S, 0, 0, [], false⟩ else RK.none
def newRE (S : Int) : Int := if szR S = true then 0 else 5
section
variable {W w w' : World} {a : RK} {v : Value} {k : ByteArray} {x : Int}
end
theorem pnewR_any (S : Int) (w : World) :
    Calls Tryz.prog 180 #[.int .i64 S] w fun e w' => ∃ v, e = .returned (.tuple #[v, .int .i64 (newRE S)]) ∧ RbR w.heap.size (newR S) v w' ∧ Below w.heap.size w w' := by
  have hz := fun w => isSz_any_2 S w
  unfold newRE newR
  cases hs : szR S
  · rw [hs] at hz
    rw [if_neg (by simp), if_neg (by simp)]
    clear hs
    go_enter Tryz.func180, Tryz.ntmps180
    go_wp2_with (go_at_call 147; refine (hz _).mono ?_; rintro e w' ⟨rfl, rfl⟩)
    refine bodyPost_ret (v := .tuple #[.agg #[.int .i64 0, .int .i64 0, .int .i64 0, .slice none 0 0, .bool false], .int .i64 5]) (by simp [results, Tryz.results180, go_sem, *]) rfl ⟨_, rfl, ⟨none, 0, 0, rfl, RdB.none_ _ _⟩, b1 _⟩
  · rw [hs] at hz
    rw [if_pos rfl, if_pos rfl]
    clear hs
    go_enter Tryz.func180, Tryz.ntmps180
    go_wp2_with (go_at_call 147; refine (hz _).mono ?_; rintro e w' ⟨rfl, rfl⟩)
    refine bodyPost_ret (v := .tuple #[.agg #[.int .i64 S, .int .i64 0, .int .i64 0, .slice none 0 0, .bool false], .int .i64 0]) (by simp [results, Tryz.results180, go_sem, *]) rfl ⟨_, rfl, ⟨none, 0, 0, rfl, RdB.none_ _ _⟩, b1 _⟩
end Go.Proofs.YtjibbnknliamkaaGreatDoor
namespace Go.Proofs.YtjibbnknliamkaaGreatDoor
open Go.RowKit
set_option linter.unusedVariables false
set_option linter.unusedSimpArgs false
/-- A sketch: the kind and its parameters, a tally, and a field of each other kind. -/
structure SK where
  k : Int
  S : Int
  D : Int
  x : Int
  tT : Int
  tI : Int
  tF : Bool
  c : CM
  l : LL
  t : TP
  f : FQ
  r : RK
/-- Its cells. -/
def skA (s : SK) (vc vl vt vf vr : Value) : Array Value :=
  #[.int .i64 s.k, .int .i64 s.S, .int .i64 s.D, .int .u64 s.x, .int .i64 s.tT, .int .i64 s.tI, .bool s.tF,
    .int .i64 s.c.D, .int .i64 s.c.S, .int .u64 s.c.x, vc, .bool s.c.s, .int .i64 s.l.P, .int .u64 s.l.x, vl,
    .int .i64 s.t.S, .int .i64 s.t.T, vt, .bool s.t.s, .int .i64 s.f.S, .int .i64 s.f.T, .int .i64 s.f.K, vf, .bool s.f.s,
    .int .i64 s.r.S, .int .i64 s.r.T, .int .i64 s.r.K, vr, .bool s.r.s]
/-- The rows of a sketch can be read. -/
def RowsK (s : SK) (vc vl vt vf vr : Value) (w : World) : Prop := RdI s.c.L vc w ∧ RdI s.l.L vl w ∧ RdE s.t.L vt w ∧ RdE s.f.L vf w ∧ RdL_2 s.r.L vr w
/-- A sketch that can be read. -/
def RdK (s : SK) (v : Value) (w : World) : Prop :=
  ∃ a1 n1 c1 a2 n2 c2 a3 n3 c3 a4 n4 c4 a5 n5 c5, v = .agg (skA s (.slice a1 n1 c1) (.slice a2 n2 c2) (.slice a3 n3 c3) (.slice a4 n4 c4) (.slice a5 n5 c5)) ∧ RowsK s (.slice a1 n1 c1) (.slice a2 n2 c2) (.slice a3 n3 c3) (.slice a4 n4 c4) (.slice a5 n5 c5) w
theorem RowsK.below {s : SK} {v1 v2 v3 v4 v5 : Value} {w w' : World} (h : RowsK s v1 v2 v3 v4 v5 w) (hb : Below w.heap.size w w') : RowsK s v1 v2 v3 v4 v5 w' :=
  ⟨h.1.below hb, h.2.1.below hb, h.2.2.1.below hb, h.2.2.2.1.below hb, h.2.2.2.2.below hb⟩
theorem RdK.below {s : SK} {v : Value} {w w' : World} (h : RdK s v w) (hb : Below w.heap.size w w') : RdK s v w' := by
  obtain ⟨a1, n1, c1, a2, n2, c2, a3, n3, c3, a4, n4, c4, a5, n5, c5, hv, hr⟩ := h
  exact ⟨a1, n1, c1, a2, n2, c2, a3, n3, c3, a4, n4, c4, a5, n5, c5, hv, hr.below hb⟩
/-- A sketch without anything. -/
def SK.z : SK := ⟨0, 0, 0, 0, 0, 0, false, CM.none, LL.none, TP.none, FQ.none, RK.none⟩
/-- Bounds of a sketch's numbers. -/
def I64 (n : Int) : Prop := -9223372036854775808 ≤ n ∧ n ≤ 9223372036854775807
def U64 (n : Int) : Prop := 0 ≤ n ∧ n ≤ 18446744073709551615
/-- The error of parameters. -/
def prmE (k S D x : Int) : Int :=
  if k = 1 then (if S = 0 ∧ D = 0 ∧ x = 0 then 0 else 10)
  else if k = 2 then newE D S
  else if k = 3 then (if newLE S = 0 then (if D = 0 then 0 else 10) else 5)
  else if k = 4 ∨ k = 5 then (if newTE S = 0 then (if D = 0 ∧ x = 0 then 0 else 10) else 5)
  else if k = 6 then (if newRE S = 0 then (if D = 0 ∧ x = 0 then 0 else 10) else 5)
  else 8
/-- A new sketch. -/
def nuK (k S D x : Int) : SK :=
  if prmE k S D x ≠ 0 then SK.z
  else ⟨k, S, D, x, 0, 0, false, if k = 2 then newC D S x else CM.none, if k = 3 then newL S x else LL.none,
    if k = 4 then newT S else TP.none, if k = 5 then newQ S else FQ.none, if k = 6 then newR S else RK.none⟩
end Go.Proofs.YtjibbnknliamkaaGreatDoor
