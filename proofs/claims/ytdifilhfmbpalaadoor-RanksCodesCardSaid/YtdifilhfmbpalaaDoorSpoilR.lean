/- The contract of sketchstorelaw11.spoil. -/
import Derived.Test.YtdifilhfmbpalaaDoorRkZ
import Derived.Test.YtdifilhfmbpalaaDoorRRkB
import Derived.Test.YtdifilhfmbpalaaDoorBase
import Derived.Test.YtdifilhfmbpalaaDoorMeet
import Derived.Test.YtdifilhfmbpalaaDoorLaw11B
import Derived.Test.YtdifilhfmbpalaaDoorLastOp
import Derived.Deep.RegionLaw
import Derived.Deep.Cut
namespace Go.Proofs.YtdifilhfmbpalaaDoor
open Go.RowKit
set_option linter.unusedVariables false
set_option linter.unusedSimpArgs false
theorem mask1 (n : Int) : bits .and .i64 n 1 = n % 2 := i64_mask 1 (by decide) n
theorem mask4s (n : Int) : bits .and .i64 n 15 = n % 16 := i64_mask 4 (by decide) n
theorem mask6 (n : Int) : bits .and .i64 n 63 = n % 64 := i64_mask 6 (by decide) n
theorem mask24 (n : Int) : bits .and .i64 n 16777215 = n % 16777216 := i64_mask 24 (by decide) n
/-- Two structs may turn, and rows of slices; old blocks from B on, and rows of strings, are as they were. -/
def KeptS (W : World) (B : Nat) (w w' : World) : Prop := w.heap.size ≤ w'.heap.size ∧ ∀ g, B ≤ g → g < w.heap.size → (g < W.heap.size ∨ (W.heap.size + 2 ≤ g ∧ ∃ cur, w.heap[g]? = some (.cells cur 9))) → w'.heap[g]? = w.heap[g]?
section
variable {W : World} {B : Nat} {w w' w'' : World}
theorem KeptS.refl (W : World) (B : Nat) (w : World) : KeptS W B w w := ⟨Nat.le_refl _, fun _ _ _ _ => rfl⟩
theorem KeptS.trans (h : KeptS W B w w') (k : KeptS W B w' w'') : KeptS W B w w'' :=
  ⟨Nat.le_trans h.1 k.1, fun g hg hl ht => by
    have h1 := h.2 g hg hl ht
    refine (k.2 g hg (Nat.lt_of_lt_of_le hl h.1) ?_).trans h1
    rcases ht with h2 | ⟨h3, cur, h2⟩
    · exact .inl h2
    · exact .inr ⟨h3, cur, h1.trans h2⟩⟩
theorem KeptS.below (h : Below w.heap.size w w') : KeptS W B w w' := ⟨h.size, fun g _ hl _ => h.block g hl⟩
theorem KeptS.own {us : List Value} {v : Value} (h : OwnV (W.heap.size + 2) us v w) (hl : Lone v w w') : KeptS W B w w' := by
  refine ⟨hl.1, fun g hg hlt ht => hl.2 g hlt (fun e => ?_)⟩
  obtain ⟨h1, cur, h2⟩ := row_block h.2 e
  rcases ht with h3 | ⟨h4, cur', h3⟩
  · omega
  · rw [h2] at h3
    injection h3 with h3
    injection h3 with _ h4 _
    exact absurd h4 (by decide)
theorem KeptS.store {us : List Value} {g n cap j : Nat} {u : Value} (h : OwnV (W.heap.size + 2) us (.slice (some ⟨g, 0, none⟩) n cap) w) : KeptS W B w (w.setCell ⟨g, j, none⟩ u) := by
  refine ⟨by simp, fun k hk hlt ht => Below.heap_setCell _ ⟨g, j, none⟩ _ _ (fun e => ?_)⟩
  have e : k = g := e
  subst e
  obtain ⟨h1, cur, h2⟩ := row_block h.2 (g := k) rfl
  rcases ht with h3 | ⟨h4, cur', h3⟩
  · omega
  · rw [h2] at h3
    injection h3 with h3
    injection h3 with _ h4 _
    exact absurd h4 (by decide)
/-- A store into one of the two structs. -/
theorem KeptS.struct {g j : Nat} {u : Value} (h0 : W.heap.size ≤ g) (h1 : g < W.heap.size + 2) : KeptS W B w (w.setCell ⟨g, j, none⟩ u) := by
  refine ⟨by simp, fun k hk hlt ht => Below.heap_setCell _ ⟨g, j, none⟩ _ _ (fun e => ?_)⟩
  have e : k = g := e
  rcases ht with h3 | ⟨h4, -⟩ <;> omega
end
def RowS (W : World) (B : Nat) (l : List ByteArray) (u : Value) (w : World) : Prop := u.oneCell' = true ∧ ∀ w', KeptS W B w w' → RdS l u w'
section
variable {W : World} {B : Nat} {l : List ByteArray} {u : Value} {w w' : World}
theorem RowS.rd (h : RowS W B l u w) : RdS l u w := h.2 w (KeptS.refl _ _ _)
theorem RowS.keep (h : RowS W B l u w) (hk : KeptS W B w w') : RowS W B l u w' := ⟨h.1, fun w'' h2 => h.2 w'' (hk.trans h2)⟩
theorem RowS.nil_ (W : World) (B : Nat) (w : World) : RowS W B [] nilS w := ⟨rfl, fun w' _ => (OwnS.empty 0 w').rd⟩
theorem RowS.own {B' : Nat} (h : OwnS B' l u w) (hB : B ≤ W.heap.size) (hB' : W.heap.size + 2 ≤ B') : RowS W B l u w :=
  ⟨h.cell1, fun w' hk => (h.keep (fun g hg e => by
    obtain ⟨h1, cur, h2⟩ := row_block h e
    exact hk.2 g (by omega) hg (.inr ⟨by omega, cur, h2⟩))).rd⟩
end
/-- Levels in a row of the call's own behind two structs, their rows readable. -/
def MxS (W : World) (B : Nat) (L : List (List ByteArray)) (us : List Value) (v : Value) (w : World) : Prop := OwnV (W.heap.size + 2) us v w ∧ us.length = L.length ∧ ∀ j, j < L.length → RowS W B (L.getD j []) (us.getD j nilS) w
section
variable {W : World} {B : Nat} {L : List (List ByteArray)} {us : List Value} {v : Value} {w w' : World}
theorem MxS.rd (h : MxS W B L us v w) : RdL L v w := ⟨us, h.1.rd, h.2.1, fun j hj => (h.2.2 j hj).rd⟩
theorem MxS.below (h : MxS W B L us v w) (hb : Below w.heap.size w w') : MxS W B L us v w' := ⟨h.1.below hb, h.2.1, fun j hj => (h.2.2 j hj).keep (.below hb)⟩
/-- Another row of the call's own, that holds the same slices. -/
theorem MxS.of {w1 : World} (h : ∀ j, j < L.length → RowS W B (L.getD j []) (us.getD j nilS) w1) (hn : us.length = L.length) (hk : KeptS W B w1 w') (hv : OwnV (W.heap.size + 2) us v w') : MxS W B L us v w' := ⟨hv, hn, fun j hj => (h j hj).keep hk⟩
/-- One level more. -/
theorem MxS.snoc {l : List ByteArray} {u v' : Value} (h : MxS W B L us v w) (hu : RowS W B l u w) (hv : OwnV (W.heap.size + 2) (us ++ [u]) v' w') (hl : Lone v w w') : MxS W B (L ++ [l]) (us ++ [u]) v' w' := by
  have hk : KeptS W B w w' := KeptS.own h.1 hl
  refine ⟨hv, by simp [h.2.1], fun j hj => ?_⟩
  rw [List.length_append, List.length_singleton] at hj
  rw [getD_snoc, getD_snoc, h.2.1]
  by_cases hjl : j < L.length
  · rw [if_pos hjl, if_pos hjl]
    exact (h.2.2 j hjl).keep hk
  · rw [if_neg hjl, if_neg hjl, if_pos (by omega), if_pos (by omega)]
    exact hu.keep hk
/-- One level ahead. -/
theorem MxS.cons {l : List ByteArray} {u v1 v' : Value} (h : MxS W B L us v w) (hu : RowS W B l u w) (h1 : OwnV (W.heap.size + 2) [u] v1 w) (hv : OwnV (W.heap.size + 2) ([u] ++ us) v' w') (hl : Lone v1 w w') : MxS W B (l :: L) ([u] ++ us) v' w' := by
  have hk : KeptS W B w w' := KeptS.own h1 hl
  refine ⟨hv, by simp [h.2.1], fun j hj => ?_⟩
  cases j with
  | zero => exact hu.keep hk
  | succ j => exact (h.2.2 j (by simpa using hj)).keep hk
/-- One level in place. -/
theorem MxS.set {l : List ByteArray} {u : Value} {g n cap j : Nat} (h : MxS W B L us (.slice (some ⟨g, 0, none⟩) n cap) w) (hj : j < L.length) (hu : RowS W B l u w) : MxS W B (L.set j l) (us.set j u) (.slice (some ⟨g, 0, none⟩) n cap) (w.setCell ⟨g, j, none⟩ u) := by
  have hk : KeptS W B w (w.setCell ⟨g, j, none⟩ u) := KeptS.store h.1
  have hlen := h.2.1
  refine ⟨h.1.put (by omega) j hu.1, by rw [List.length_set, List.length_set]; exact hlen, fun i hi => ?_⟩
  rw [List.length_set] at hi
  by_cases hij : j = i
  · subst hij
    rw [getD_set_eq hj, getD_set_eq (by omega)]
    exact hu.keep hk
  · rw [getD_set_ne hij, getD_set_ne hij]
    exact (h.2.2 i hi).keep hk
theorem MxS.made {N : Nat} (h : OwnV (W.heap.size + 2) (List.replicate N nilS) v w) : MxS W B (List.replicate N []) (List.replicate N nilS) v w := by
  refine ⟨h, by simp, fun j hj => ?_⟩
  have e : (List.replicate N ([] : List ByteArray)).getD j [] = [] := by
    rw [List.length_replicate] at hj
    simp [List.getD, List.getElem?_replicate, hj]
  rw [getD_rep, e]
  exact RowS.nil_ _ _ _
/-- A struct turns. -/
theorem MxS.struct {g j : Nat} {x : Value} (h : MxS W B L us v w) (h0 : W.heap.size ≤ g) (h1 : g < W.heap.size + 2) : MxS W B L us v (w.setCell ⟨g, j, none⟩ x) :=
  ⟨h.1.keep (fun k hk e => Below.heap_setCell _ ⟨g, j, none⟩ _ _ (fun e' => by
    have e' : k = g := e'
    have := (h.1.lt e).1
    omega)), h.2.1, fun i hi => (h.2.2 i hi).keep (.struct h0 h1)⟩
theorem MxS.rb (h : MxS W B L us v w) (hB : B ≤ W.heap.size) : RdB B L v w := by
  refine ⟨us, fun w' h1 h2 => ?_⟩
  have hk : KeptS W B w w' := ⟨h1, fun g hg hl _ => h2 g hg hl⟩
  refine ⟨(h.1.keep (fun g hg e => h2 g (by have := (h.1.lt e).1; omega) hg)).rd, h.2.1, fun j hj => (h.2.2 j hj).2 w' hk⟩
/-- The rows of levels that came in. -/
theorem RdU.rowsS (h : RdU B L us v W) (hb : Below W.heap.size W w) : ∀ j, j < L.length → RowS W B (L.getD j []) (us.getD j nilS) w := by
  have h0 := h W (Nat.le_refl _) (fun _ _ _ => rfl)
  refine fun j hj => ⟨h0.1.1 _ (getD_mem (by rw [h0.2.1]; exact hj)), fun w' hk => ?_⟩
  have hs := hb.size
  refine (h w' (Nat.le_trans hs hk.1) (fun g hg hl => ?_)).2.2 j hj
  rw [hk.2 g hg (by omega) (.inl hl)]
  exact hb.block g hl
end
/-- The struct to be spoilt, the result's struct, the levels. -/
def Sp (W : World) (B : Nat) (S T K : Int) (s : Bool) (L : List (List ByteArray)) (us : List Value) (u : Value) (w : World) : Prop :=
  RsS W.heap.size S T K u s w ∧ RsS (W.heap.size + 1) 0 0 0 (.slice none 0 0) false w ∧ MxS W B L us u w ∧ Below W.heap.size W w
theorem alloc_set (w : World) (o : Obj) {g k : Nat} {x : Value} (hg : g < w.heap.size) : (w.alloc o).setCell ⟨g, k, none⟩ x = (w.setCell ⟨g, k, none⟩ x).alloc o := by
  unfold World.alloc World.setCell
  dsimp only
  congr 1
  apply Array.ext_getElem?
  intro i
  simp only [Array.getElem?_modify, Array.getElem?_push, Array.size_modify]
  by_cases h1 : g = i
  · subst h1
    simp [Nat.ne_of_lt hg]
  · by_cases h2 : i = w.heap.size
    · simp [h1, h2]
      intro h3
      omega
    · simp [h1, h2]
theorem OwnS.cut1 (s t : ByteArray) (w : World) : OwnS w.heap.size [s] (.slice (some ⟨w.heap.size, 0, none⟩) 1 2) (w.alloc (.cells #[.string s, .string t] 9)) := ⟨rfl, .inr ⟨w.heap.size, 2, #[.string s, .string t], rfl, Nat.le_refl _, Go.heap_alloc_new w _, (show 1 ≤ 2 by decide), by decide, rfl, rfl⟩⟩
theorem OwnS.cut2 (s t : ByteArray) (w : World) : OwnS w.heap.size [s, t] (.slice (some ⟨w.heap.size, 0, none⟩) 2 2) (w.alloc (.cells #[.string s, .string t] 9)) := ⟨rfl, .inr ⟨w.heap.size, 2, #[.string s, .string t], rfl, Nat.le_refl _, Go.heap_alloc_new w _, (show 2 ≤ 2 by decide), by decide, rfl, rfl⟩⟩
theorem OwnV.oneAt {u : Value} (hu : u.oneCell' = true) (w : World) {k : Nat} (hk : w.heap.size = k) : OwnV k [u] (.slice (some ⟨k, 0, none⟩) 1 1) (w.alloc (.cells #[u] 57)) := by
  subst hk
  exact OwnV.one hu w
section
variable {W : World} {B : Nat} {S T K : Int} {s : Bool} {L M : List (List ByteArray)} {us vs : List Value} {u v : Value} {w w' : World}
theorem Sp.one (h : Sp W B S T K s L us u w) : RsS W.heap.size S T K u s w := h.1
theorem Sp.two (h : Sp W B S T K s L us u w) : RsS (W.heap.size + 1) 0 0 0 (.slice none 0 0) false w := h.2.1
theorem Sp.lv (h : Sp W B S T K s L us u w) : MxS W B L us u w := h.2.2.1
theorem Sp.ov (h : Sp W B S T K s L us u w) : OwnV (W.heap.size + 2) us u w := h.2.2.1.1
theorem Sp.bel (h : Sp W B S T K s L us u w) : Below W.heap.size W w := h.2.2.2
theorem Sp.size (h : Sp W B S T K s L us u w) : W.heap.size + 2 ≤ w.heap.size := by have := h.2.1.lt; omega
theorem Sp.go (h : Sp W B S T K s L us u w) (hb : Below w.heap.size w w') : Sp W B S T K s L us u w' := ⟨h.1.go hb, h.2.1.go hb, h.2.2.1.below hb, bgo h.2.2.2 hb⟩
theorem Sp.drew (h : Sp W B S T K s L us u w) : Sp W B S T K s L us u w.drew := h.go (Below.refl _ _).drew
theorem RsS.oth {g k o : Nat} {x : Value} (h : RsS g S T K v s w) (hne : g ≠ k) : RsS g S T K v s (w.setCell ⟨k, o, none⟩ x) := h.keep (Below.heap_setCell _ ⟨k, o, none⟩ _ _ hne)
/-- Levels are laid into the struct. -/
theorem Sp.lay (h1 : RsS W.heap.size S T K u s w) (h2 : RsS (W.heap.size + 1) 0 0 0 (.slice none 0 0) false w) (h3 : MxS W B M vs v w) (h4 : Below W.heap.size W w) : Sp W B S T K s M vs v (w.setCell ⟨W.heap.size, 3, none⟩ v) :=
  ⟨h1.put3 v, h2.oth (Nat.succ_ne_self _), h3.struct (Nat.le_refl _) (by omega), bset h4 _ _ _ (Nat.le_refl _)⟩
theorem Sp.setS (h : Sp W B S T K s L us u w) (c : Int) : Sp W B c T K s L us u (w.setCell ⟨W.heap.size, 0, none⟩ (.int .i64 c)) := by
  obtain ⟨⟨⟨a0, a1, a2, a3, a4⟩, f0, f1, f2, f3, f4⟩, h2, h3, h4⟩ := h
  exact ⟨⟨⟨by go_simp, by go_simp, by go_simp, by go_simp, by go_simp⟩, by go_simp, by go_simp, by go_simp, by go_simp, by go_simp⟩, h2.oth (Nat.succ_ne_self _), h3.struct (Nat.le_refl _) (by omega), bset h4 _ _ _ (Nat.le_refl _)⟩
theorem Sp.setT (h : Sp W B S T K s L us u w) (c : Int) : Sp W B S c K s L us u (w.setCell ⟨W.heap.size, 1, none⟩ (.int .i64 c)) := by
  obtain ⟨⟨⟨a0, a1, a2, a3, a4⟩, f0, f1, f2, f3, f4⟩, h2, h3, h4⟩ := h
  exact ⟨⟨⟨by go_simp, by go_simp, by go_simp, by go_simp, by go_simp⟩, by go_simp, by go_simp, by go_simp, by go_simp, by go_simp⟩, h2.oth (Nat.succ_ne_self _), h3.struct (Nat.le_refl _) (by omega), bset h4 _ _ _ (Nat.le_refl _)⟩
theorem Sp.setK (h : Sp W B S T K s L us u w) (c : Int) : Sp W B S T c s L us u (w.setCell ⟨W.heap.size, 2, none⟩ (.int .i64 c)) := by
  obtain ⟨⟨⟨a0, a1, a2, a3, a4⟩, f0, f1, f2, f3, f4⟩, h2, h3, h4⟩ := h
  exact ⟨⟨⟨by go_simp, by go_simp, by go_simp, by go_simp, by go_simp⟩, by go_simp, by go_simp, by go_simp, by go_simp, by go_simp⟩, h2.oth (Nat.succ_ne_self _), h3.struct (Nat.le_refl _) (by omega), bset h4 _ _ _ (Nat.le_refl _)⟩
/-- A level is stored. -/
theorem Sp.set {l : List ByteArray} {x : Value} {g n cap j : Nat} (h : Sp W B S T K s L us (.slice (some ⟨g, 0, none⟩) n cap) w) (hg : W.heap.size + 2 ≤ g) (hj : j < L.length) (hu : RowS W B l x w) : Sp W B S T K s (L.set j l) (us.set j x) (.slice (some ⟨g, 0, none⟩) n cap) (w.setCell ⟨g, j, none⟩ x) :=
  ⟨h.1.oth (by omega), h.2.1.oth (by omega), h.2.2.1.set hj hu, bset h.2.2.2 _ _ _ (by omega)⟩
end
/-- Few and short levels. -/
def Few (L : List (List ByteArray)) : Prop := L.length ≤ 42 ∧ ∀ l ∈ L, l.length ≤ 31 ∧ SOk l
theorem Few.lok {L : List (List ByteArray)} (h : Few L) : LOk L := ⟨by have := h.1; omega, fun l hl => ⟨by have := (h.2 l hl).1; omega, (h.2 l hl).2⟩⟩
theorem ValR.few {S T K : Int} {L : List (List ByteArray)} (h : ValR S T K L) : Few L := ⟨by have := h.nl; omega, fun l hl => ⟨h.rows l hl, (h.lok.2 l hl).2⟩⟩
theorem Few.snoc {L : List (List ByteArray)} {l : List ByteArray} (h : Few L) (hl : L.length ≤ 41) (h1 : l.length ≤ 31) (h2 : SOk l) : Few (L ++ [l]) := ⟨by simp; omega, fun m hm => by
  rcases List.mem_append.1 hm with hm | hm
  · exact h.2 m hm
  · rw [List.mem_singleton] at hm; subst hm; exact ⟨h1, h2⟩⟩
theorem Few.cons {L : List (List ByteArray)} {l : List ByteArray} (h : Few L) (hl : L.length ≤ 41) (h1 : l.length ≤ 31) (h2 : SOk l) : Few (l :: L) := ⟨by simp; omega, fun m hm => by
  rcases List.mem_cons.1 hm with hm | hm
  · subst hm; exact ⟨h1, h2⟩
  · exact h.2 m hm⟩
theorem Few.rep {N : Nat} (h : N ≤ 42) : Few (List.replicate N []) := ⟨by simpa using h, fun m hm => by
  rw [List.eq_of_mem_replicate hm]
  exact ⟨by simp, by intro x hx; cases hx⟩⟩
theorem Few.set {L : List (List ByteArray)} {l : List ByteArray} {j : Nat} (h : Few L) (h1 : l.length ≤ 31) (h2 : SOk l) : Few (L.set j l) := ⟨by rw [List.length_set]; exact h.1, fun m hm => by
  rcases List.mem_or_eq_of_mem_set hm with hm | hm
  · exact h.2 m hm
  · subst hm; exact ⟨h1, h2⟩⟩
theorem sok1 {x : ByteArray} (h : x.size ≤ maxLen) : SOk [x] := fun y hy => by rw [List.mem_singleton] at hy; subst hy; exact h
theorem sok2 {x y : ByteArray} (h : x.size ≤ maxLen) (h2 : y.size ≤ maxLen) : SOk [x, y] := fun z hz => by
  rcases List.mem_cons.1 hz with rfl | hz
  · exact h
  · rw [List.mem_singleton] at hz; subst hz; exact h2
/-- Some summary that can be read. -/
def AnyR (B : Nat) (w : World) (e : Ending) (w' : World) : Prop := ∃ c u, e = .returned u ∧ WfR c ∧ Few c.L ∧ RbR B c u w' ∧ Below w.heap.size w w'
/-- The result is written. -/
theorem AnyR.done {B : Nat} {W w w' : World} {S T K : Int} {s : Bool} {L : List (List ByteArray)} {us : List Value} {a : Option Addr} {n cap : Nat} (hw : WfR ⟨S, T, K, L, s⟩) (hl : Few L) (hO : Sp W B S T K s L us (.slice a n cap) w) (hB : B ≤ W.heap.size) (hw' : w' = ((((w.setCell ⟨W.heap.size + 1, 0, none⟩ (.int .i64 S)).setCell ⟨W.heap.size + 1, 1, none⟩ (.int .i64 T)).setCell ⟨W.heap.size + 1, 2, none⟩ (.int .i64 K)).setCell ⟨W.heap.size + 1, 3, none⟩ (.slice a n cap)).setCell ⟨W.heap.size + 1, 4, none⟩ (.bool s)) :
    AnyR B W (.returned (.agg #[.int .i64 S, .int .i64 T, .int .i64 K, .slice a n cap, .bool s])) w' := by
  subst hw'
  have l1 : W.heap.size + 1 < W.heap.size + 2 := by omega
  have l2 : W.heap.size ≤ W.heap.size + 1 := by omega
  exact ⟨⟨S, T, K, L, s⟩, _, rfl, hw, hl, ⟨_, _, _, rfl, (((((hO.lv.struct l2 l1).struct l2 l1).struct l2 l1).struct l2 l1).struct l2 l1).rb hB⟩, bset (bset (bset (bset (bset hO.bel _ _ _ l2) _ _ _ l2) _ _ _ l2) _ _ _ l2) _ _ _ l2⟩
set_option maxRecDepth 100000 in
set_option maxHeartbeats 8000000 in
theorem spoilR_any (B : Nat) (c : RK) (v : Value) (n : Int) (W : World) (hc : ValR c.S c.T c.K c.L) (hv : RbR B c v W) (hB : B ≤ W.heap.size) (n0 : -9223372036854775808 ≤ n) (n1 : n ≤ 9223372036854775807) :
    Calls Tryd.prog 12 #[v, .int .i64 n] W (AnyR B W) := by
  obtain ⟨S, T, K, L, s⟩ := c
  obtain ⟨a, cap, rfl, usL, hU⟩ := hv.run
  clear hv
  dsimp only at hc hU ⊢
  have hU0 := hU W (Nat.le_refl _) (fun _ _ _ => rfl)
  have hun : usL.length = L.length := hU0.2.1
  have HFW := Lib.hid hc.few
  have HNL := Lib.hid hc.nl
  have hs0 := hc.s0
  have hs1' := hc.s1
  have ht0 := hc.t0
  have ht1 := hc.t1
  have hk0 := hc.k0
  have hk1 := hc.k1
  have HC : Hid (WfR ⟨S, T, K, L, s⟩) := Lib.hid ⟨⟨by dsimp only; omega, by dsimp only; omega⟩, ⟨by dsimp only; omega, by dsimp only; omega⟩, by dsimp only; omega, by dsimp only; omega⟩
  obtain ⟨qT, qT2⟩ := add_fit (a := T) (b := 1) ht0 (by omega) (by decide) (by decide)
  have m0 := mask4s n
  have m1 := mask24 (n / 16)
  have e0 : 0 ≤ n % 16 ∧ n % 16 ≤ 15 := by omega
  have e1 : 0 ≤ n / 16 % 16777216 ∧ n / 16 % 16777216 ≤ 16777215 := by omega
  generalize n % 16 = r at *
  generalize n / 16 % 16777216 = k at *
  have m2 := mask6 k
  have m3 := mask2r k
  have m4 := mask4s k
  have m5 := mask4s (k / 16)
  have m6 := mask1 (k / 256)
  have m7 := mask1 k
  have e2 : 0 ≤ k % 64 ∧ k % 64 ≤ 63 := by omega
  have e3 : 0 ≤ k % 4 ∧ k % 4 ≤ 3 := by omega
  have e4 : 0 ≤ k % 16 ∧ k % 16 ≤ 15 := by omega
  have e5 : 0 ≤ k / 16 % 16 ∧ k / 16 % 16 ≤ 15 := by omega
  have e6 : k / 256 % 2 = 0 ∨ k / 256 % 2 = 1 := by omega
  have e7 : k % 2 = 0 ∨ k % 2 = 1 := by omega
  have e8 : k.tmod 2 = k % 2 := Int.tmod_eq_emod_of_nonneg (by omega)
  have hk4 : k % 4 = 0 ∨ k % 4 = 1 ∨ k % 4 = 2 ∨ k % 4 = 3 := by omega
  obtain ⟨e00, e01⟩ := e0
  obtain ⟨e10, e11⟩ := e1
  obtain ⟨e20, e21⟩ := e2
  obtain ⟨e30, e31⟩ := e3
  obtain ⟨e40, e41⟩ := e4
  obtain ⟨e50, e51⟩ := e5
  have hK1 := fun w => key_any (k % 16) w (by omega) (by omega)
  have hK2 := fun w => key_any (k / 16 % 16) w (by omega) (by omega)
  have HKS1 : Hid ((keyS (k % 16)).size ≤ maxLen) := Lib.hid (by have := keyS_bd (k % 16); unfold maxLen; omega)
  have HKS2 : Hid ((keyS (k / 16 % 16)).size ≤ maxLen) := Lib.hid (by have := keyS_bd (k / 16 % 16); unfold maxLen; omega)
  generalize keyS (k % 16) = KA at *
  generalize keyS (k / 16 % 16) = KB at *
  generalize k % 64 = k64 at *
  generalize k % 16 = k16 at *
  generalize k / 16 % 16 = kk16 at *
  generalize k / 256 % 2 = k2 at *
  generalize k % 2 = kb at *
  generalize k % 4 = k4 at *
  have B0 := Lib.hid (b2 (a := W) (.cells #[.int .i64 S, .int .i64 T, .int .i64 K, .slice a L.length cap, .bool s] 28) (.cells #[.int .i64 0, .int .i64 0, .int .i64 0, .slice none 0 0, .bool false] 28))
  have HSRC := Lib.hid (hU0.1.below B0.out).src
  have HROW := Lib.hid (fun (w : World) (hb : Below W.heap.size W w) => hU.rowsS hb)
  have C0 := Lib.hid (show RsS W.heap.size S T K (.slice a L.length cap) s ((W.alloc (.cells #[.int .i64 S, .int .i64 T, .int .i64 K, .slice a L.length cap, .bool s] 28)).alloc (.cells #[.int .i64 0, .int .i64 0, .int .i64 0, .slice none 0 0, .bool false] 28)) from (RsS.new S T K _ s _ W).go (b1 _))
  have Z0 := Lib.hid (show RsS (W.heap.size + 1) 0 0 0 (.slice none 0 0) false ((W.alloc (.cells #[.int .i64 S, .int .i64 T, .int .i64 K, .slice a L.length cap, .bool s] 28)).alloc (.cells #[.int .i64 0, .int .i64 0, .int .i64 0, .slice none 0 0, .bool false] 28)) from by
    have := RsS.new 0 0 0 (.slice none 0 0) false 28 (W.alloc (.cells #[.int .i64 S, .int .i64 T, .int .i64 K, .slice a L.length cap, .bool s] 28))
    rwa [show (W.alloc (.cells #[.int .i64 S, .int .i64 T, .int .i64 K, .slice a L.length cap, .bool s] 28)).heap.size = W.heap.size + 1 by simp] at this)
  have HUN := Lib.hid hun
  have hn42 := HNL.out
  clear hU hU0 hc hun hs0 hs1' ht0 ht1 hk0 hk1
  go_enter Tryd.func12, Tryd.ntmps12
  go_upto_region 4 with ((at_builtin; refine wp_appV rfl _ _ _ rfl (W.heap.size + 2) [] usL _ _ rfl rfl (OwnV.empty _ _) HSRC.out (by simp) (by have := HUN.out; simp; omega) ?_; intro u w2 ho2 hb2 hl2; rw [List.nil_append] at ho2; have B2 := Lib.hid (B0.out.trans (hb2.mono (by omega))); have C2 := Lib.hid (C0.out.below hb2 (by omega)); have Z2 := Lib.hid (Z0.out.below hb2 (by omega)); obtain ⟨⟨p0, p1, p2, p3, p4⟩, f0, f1, f2, f3, f4⟩ := C2.out; obtain ⟨⟨q0, q1, q2, q3, q4⟩, g0, g1, g2, g3, g4⟩ := Z2.out; have hs1 : W.heap.size < w2.heap.size := C2.out.lt; have hs2 : W.heap.size + 1 < w2.heap.size := Z2.out.lt; obtain ⟨a2, c2, hv2⟩ := ho2.rd.shape; rw [HUN.out] at hv2; subst hv2; have M2 : Hid (MxS W B L usL (.slice a2 L.length c2) w2) := Lib.hid ⟨ho2, HUN.out, HROW.out _ B2.out⟩; clear ho2 hb2 hl2 HROW HSRC))
  have H3 := Lib.hid (Sp.lay C2.out Z2.out M2.out B2.out)
  clear p0 p1 p2 p3 p4 f0 f1 f2 f3 f4 q0 q1 q2 q3 q4 g0 g1 g2 g3 g4 hs1 hs2 C2 Z2 M2 B2 C0 Z0 B0
  generalize w2.setCell ⟨W.heap.size, 3, none⟩ (.slice a2 L.length c2) = w3 at *
  obtain ⟨⟨p0, p1, p2, p3, p4⟩, f0, f1, f2, f3, f4⟩ := H3.out.one; obtain ⟨⟨q0, q1, q2, q3, q4⟩, g0, g1, g2, g3, g4⟩ := H3.out.two
  have hs1 : W.heap.size < w3.heap.size := H3.out.one.lt
  have hs2 : W.heap.size + 1 < w3.heap.size := H3.out.two.lt
  have HT1 : Hid (-9223372036854775808 ≤ T + 1 ∧ T + 1 ≤ 9223372036854775807) := Lib.hid (by have h := HC.out.2.1; dsimp only at h; rw [IntKind.wrap_i64] at qT; omega)
  have hr9 : r = 0 ∨ r = 1 ∨ r = 2 ∨ r = 3 ∨ r = 4 ∨ r = 5 ∨ r = 6 ∨ r = 7 ∨ ((r == 0) = false ∧ (r == 1) = false ∧ (r == 2) = false ∧ (r == 3) = false ∧ (r == 4) = false ∧ (r == 5) = false ∧ (r == 6) = false ∧ (r == 7) = false) := by
    simp only [beq_eq_false_iff_ne, ne_eq]
    omega
  rcases hr9 with rfl | rfl | rfl | rfl | rfl | rfl | rfl | rfl | ⟨r0, r1, r2, r3, r4, r5, r6, r7⟩
  · go_upto_region 26 with (fail)
    have H4 := Lib.hid (H3.out.setS (k64 - 2))
    clear p0 p1 p2 p3 p4 f0 f1 f2 f3 f4 q0 q1 q2 q3 q4 g0 g1 g2 g3 g4 hs1 hs2
    generalize w3.setCell ⟨W.heap.size, 0, none⟩ (.int .i64 (k64 - 2)) = w4 at *
    obtain ⟨⟨p0, p1, p2, p3, p4⟩, f0, f1, f2, f3, f4⟩ := H4.out.one; obtain ⟨⟨q0, q1, q2, q3, q4⟩, g0, g1, g2, g3, g4⟩ := H4.out.two
    have hs1 : W.heap.size < w4.heap.size := H4.out.one.lt
    have hs2 : W.heap.size + 1 < w4.heap.size := H4.out.two.lt
    go_wp2
    refine bodyPost_ret (v := .agg #[.int .i64 (k64 - 2), .int .i64 T, .int .i64 K, .slice a2 L.length c2, .bool s]) (by simp [results, Tryd.results12, go_sem, *]) rfl ?_
    exact AnyR.done (L := L) ⟨⟨by dsimp only; omega, by dsimp only; omega⟩, HC.out.2⟩ (HFW.out) H4.out hB rfl
  · rcases hk4 with h4 | h4 | h4 | h4 <;> rw [h4] at m3 <;> clear h4 e30 e31
    · go_upto_region 26 with (fail)
      have H4 := Lib.hid ((H3.out.setT (-1)).go (b1 (.cells #[.int .i64 (-1), .int .i64 1099511627776, .int .i64 1099511627777, .int .i64 (T + 1)] 3)))
      clear p0 p1 p2 p3 p4 f0 f1 f2 f3 f4 q0 q1 q2 q3 q4 g0 g1 g2 g3 g4 hs1 hs2
      generalize (w3.setCell ⟨W.heap.size, 1, none⟩ (.int .i64 (-1))).alloc (.cells #[.int .i64 (-1), .int .i64 1099511627776, .int .i64 1099511627777, .int .i64 (T + 1)] 3) = w4 at *
      obtain ⟨⟨p0, p1, p2, p3, p4⟩, f0, f1, f2, f3, f4⟩ := H4.out.one; obtain ⟨⟨q0, q1, q2, q3, q4⟩, g0, g1, g2, g3, g4⟩ := H4.out.two
      have hs1 : W.heap.size < w4.heap.size := H4.out.one.lt
      have hs2 : W.heap.size + 1 < w4.heap.size := H4.out.two.lt
      go_wp2
      refine bodyPost_ret (v := .agg #[.int .i64 S, .int .i64 (-1), .int .i64 K, .slice a2 L.length c2, .bool s]) (by simp [results, Tryd.results12, go_sem, *]) rfl ?_
      exact AnyR.done (L := L) ⟨HC.out.1, ⟨by dsimp only; omega, by dsimp only; omega⟩, HC.out.2.2⟩ (HFW.out) H4.out hB rfl
    · go_upto_region 26 with (fail)
      have H4 := Lib.hid ((H3.out.setT 1099511627776).go (b1 (.cells #[.int .i64 (-1), .int .i64 1099511627776, .int .i64 1099511627777, .int .i64 (T + 1)] 3)))
      clear p0 p1 p2 p3 p4 f0 f1 f2 f3 f4 q0 q1 q2 q3 q4 g0 g1 g2 g3 g4 hs1 hs2
      generalize (w3.setCell ⟨W.heap.size, 1, none⟩ (.int .i64 1099511627776)).alloc (.cells #[.int .i64 (-1), .int .i64 1099511627776, .int .i64 1099511627777, .int .i64 (T + 1)] 3) = w4 at *
      obtain ⟨⟨p0, p1, p2, p3, p4⟩, f0, f1, f2, f3, f4⟩ := H4.out.one; obtain ⟨⟨q0, q1, q2, q3, q4⟩, g0, g1, g2, g3, g4⟩ := H4.out.two
      have hs1 : W.heap.size < w4.heap.size := H4.out.one.lt
      have hs2 : W.heap.size + 1 < w4.heap.size := H4.out.two.lt
      go_wp2
      refine bodyPost_ret (v := .agg #[.int .i64 S, .int .i64 1099511627776, .int .i64 K, .slice a2 L.length c2, .bool s]) (by simp [results, Tryd.results12, go_sem, *]) rfl ?_
      exact AnyR.done (L := L) ⟨HC.out.1, ⟨by dsimp only; omega, by dsimp only; omega⟩, HC.out.2.2⟩ (HFW.out) H4.out hB rfl
    · go_upto_region 26 with (fail)
      have H4 := Lib.hid ((H3.out.setT 1099511627777).go (b1 (.cells #[.int .i64 (-1), .int .i64 1099511627776, .int .i64 1099511627777, .int .i64 (T + 1)] 3)))
      clear p0 p1 p2 p3 p4 f0 f1 f2 f3 f4 q0 q1 q2 q3 q4 g0 g1 g2 g3 g4 hs1 hs2
      generalize (w3.setCell ⟨W.heap.size, 1, none⟩ (.int .i64 1099511627777)).alloc (.cells #[.int .i64 (-1), .int .i64 1099511627776, .int .i64 1099511627777, .int .i64 (T + 1)] 3) = w4 at *
      obtain ⟨⟨p0, p1, p2, p3, p4⟩, f0, f1, f2, f3, f4⟩ := H4.out.one; obtain ⟨⟨q0, q1, q2, q3, q4⟩, g0, g1, g2, g3, g4⟩ := H4.out.two
      have hs1 : W.heap.size < w4.heap.size := H4.out.one.lt
      have hs2 : W.heap.size + 1 < w4.heap.size := H4.out.two.lt
      go_wp2
      refine bodyPost_ret (v := .agg #[.int .i64 S, .int .i64 1099511627777, .int .i64 K, .slice a2 L.length c2, .bool s]) (by simp [results, Tryd.results12, go_sem, *]) rfl ?_
      exact AnyR.done (L := L) ⟨HC.out.1, ⟨by dsimp only; omega, by dsimp only; omega⟩, HC.out.2.2⟩ (HFW.out) H4.out hB rfl
    · go_upto_region 26 with (fail)
      have H4 := Lib.hid ((H3.out.setT (T + 1)).go (b1 (.cells #[.int .i64 (-1), .int .i64 1099511627776, .int .i64 1099511627777, .int .i64 (T + 1)] 3)))
      clear p0 p1 p2 p3 p4 f0 f1 f2 f3 f4 q0 q1 q2 q3 q4 g0 g1 g2 g3 g4 hs1 hs2
      generalize (w3.setCell ⟨W.heap.size, 1, none⟩ (.int .i64 (T + 1))).alloc (.cells #[.int .i64 (-1), .int .i64 1099511627776, .int .i64 1099511627777, .int .i64 (T + 1)] 3) = w4 at *
      obtain ⟨⟨p0, p1, p2, p3, p4⟩, f0, f1, f2, f3, f4⟩ := H4.out.one; obtain ⟨⟨q0, q1, q2, q3, q4⟩, g0, g1, g2, g3, g4⟩ := H4.out.two
      have hs1 : W.heap.size < w4.heap.size := H4.out.one.lt
      have hs2 : W.heap.size + 1 < w4.heap.size := H4.out.two.lt
      go_wp2
      refine bodyPost_ret (v := .agg #[.int .i64 S, .int .i64 (T + 1), .int .i64 K, .slice a2 L.length c2, .bool s]) (by simp [results, Tryd.results12, go_sem, *]) rfl ?_
      exact AnyR.done (L := L) ⟨HC.out.1, ⟨by have := HT1.out; dsimp only; omega, by have := HT1.out; dsimp only; omega⟩, HC.out.2.2⟩ (HFW.out) H4.out hB rfl
  · rcases hk4 with h4 | h4 | h4 | h4 <;> rw [h4] at m3 <;> clear h4 e30 e31
    · go_upto_region 26 with (fail)
      have H4 := Lib.hid ((H3.out.setK (-1)).go (b1 (.cells #[.int .i64 (-1), .int .i64 1099511627776, .int .i64 1099511627777, .int .i64 1099511627775] 3)))
      clear p0 p1 p2 p3 p4 f0 f1 f2 f3 f4 q0 q1 q2 q3 q4 g0 g1 g2 g3 g4 hs1 hs2
      generalize (w3.setCell ⟨W.heap.size, 2, none⟩ (.int .i64 (-1))).alloc (.cells #[.int .i64 (-1), .int .i64 1099511627776, .int .i64 1099511627777, .int .i64 1099511627775] 3) = w4 at *
      obtain ⟨⟨p0, p1, p2, p3, p4⟩, f0, f1, f2, f3, f4⟩ := H4.out.one; obtain ⟨⟨q0, q1, q2, q3, q4⟩, g0, g1, g2, g3, g4⟩ := H4.out.two
      have hs1 : W.heap.size < w4.heap.size := H4.out.one.lt
      have hs2 : W.heap.size + 1 < w4.heap.size := H4.out.two.lt
      go_wp2
      refine bodyPost_ret (v := .agg #[.int .i64 S, .int .i64 T, .int .i64 (-1), .slice a2 L.length c2, .bool s]) (by simp [results, Tryd.results12, go_sem, *]) rfl ?_
      exact AnyR.done (L := L) ⟨HC.out.1, HC.out.2.1, by dsimp only; omega, by dsimp only; omega⟩ (HFW.out) H4.out hB rfl
    · go_upto_region 26 with (fail)
      have H4 := Lib.hid ((H3.out.setK 1099511627776).go (b1 (.cells #[.int .i64 (-1), .int .i64 1099511627776, .int .i64 1099511627777, .int .i64 1099511627775] 3)))
      clear p0 p1 p2 p3 p4 f0 f1 f2 f3 f4 q0 q1 q2 q3 q4 g0 g1 g2 g3 g4 hs1 hs2
      generalize (w3.setCell ⟨W.heap.size, 2, none⟩ (.int .i64 1099511627776)).alloc (.cells #[.int .i64 (-1), .int .i64 1099511627776, .int .i64 1099511627777, .int .i64 1099511627775] 3) = w4 at *
      obtain ⟨⟨p0, p1, p2, p3, p4⟩, f0, f1, f2, f3, f4⟩ := H4.out.one; obtain ⟨⟨q0, q1, q2, q3, q4⟩, g0, g1, g2, g3, g4⟩ := H4.out.two
      have hs1 : W.heap.size < w4.heap.size := H4.out.one.lt
      have hs2 : W.heap.size + 1 < w4.heap.size := H4.out.two.lt
      go_wp2
      refine bodyPost_ret (v := .agg #[.int .i64 S, .int .i64 T, .int .i64 1099511627776, .slice a2 L.length c2, .bool s]) (by simp [results, Tryd.results12, go_sem, *]) rfl ?_
      exact AnyR.done (L := L) ⟨HC.out.1, HC.out.2.1, by dsimp only; omega, by dsimp only; omega⟩ (HFW.out) H4.out hB rfl
    · go_upto_region 26 with (fail)
      have H4 := Lib.hid ((H3.out.setK 1099511627777).go (b1 (.cells #[.int .i64 (-1), .int .i64 1099511627776, .int .i64 1099511627777, .int .i64 1099511627775] 3)))
      clear p0 p1 p2 p3 p4 f0 f1 f2 f3 f4 q0 q1 q2 q3 q4 g0 g1 g2 g3 g4 hs1 hs2
      generalize (w3.setCell ⟨W.heap.size, 2, none⟩ (.int .i64 1099511627777)).alloc (.cells #[.int .i64 (-1), .int .i64 1099511627776, .int .i64 1099511627777, .int .i64 1099511627775] 3) = w4 at *
      obtain ⟨⟨p0, p1, p2, p3, p4⟩, f0, f1, f2, f3, f4⟩ := H4.out.one; obtain ⟨⟨q0, q1, q2, q3, q4⟩, g0, g1, g2, g3, g4⟩ := H4.out.two
      have hs1 : W.heap.size < w4.heap.size := H4.out.one.lt
      have hs2 : W.heap.size + 1 < w4.heap.size := H4.out.two.lt
      go_wp2
      refine bodyPost_ret (v := .agg #[.int .i64 S, .int .i64 T, .int .i64 1099511627777, .slice a2 L.length c2, .bool s]) (by simp [results, Tryd.results12, go_sem, *]) rfl ?_
      exact AnyR.done (L := L) ⟨HC.out.1, HC.out.2.1, by dsimp only; omega, by dsimp only; omega⟩ (HFW.out) H4.out hB rfl
    · go_upto_region 26 with (fail)
      have H4 := Lib.hid ((H3.out.setK 1099511627775).go (b1 (.cells #[.int .i64 (-1), .int .i64 1099511627776, .int .i64 1099511627777, .int .i64 1099511627775] 3)))
      clear p0 p1 p2 p3 p4 f0 f1 f2 f3 f4 q0 q1 q2 q3 q4 g0 g1 g2 g3 g4 hs1 hs2
      generalize (w3.setCell ⟨W.heap.size, 2, none⟩ (.int .i64 1099511627775)).alloc (.cells #[.int .i64 (-1), .int .i64 1099511627776, .int .i64 1099511627777, .int .i64 1099511627775] 3) = w4 at *
      obtain ⟨⟨p0, p1, p2, p3, p4⟩, f0, f1, f2, f3, f4⟩ := H4.out.one; obtain ⟨⟨q0, q1, q2, q3, q4⟩, g0, g1, g2, g3, g4⟩ := H4.out.two
      have hs1 : W.heap.size < w4.heap.size := H4.out.one.lt
      have hs2 : W.heap.size + 1 < w4.heap.size := H4.out.two.lt
      go_wp2
      refine bodyPost_ret (v := .agg #[.int .i64 S, .int .i64 T, .int .i64 1099511627775, .slice a2 L.length c2, .bool s]) (by simp [results, Tryd.results12, go_sem, *]) rfl ?_
      exact AnyR.done (L := L) ⟨HC.out.1, HC.out.2.1, by dsimp only; omega, by dsimp only; omega⟩ (HFW.out) H4.out hB rfl
  · have HA := Lib.hid (H3.out.go (b1 (.cells #[nilS] 57)))
    have HX := Lib.hid (OwnV.one (u := nilS) rfl w3).rd.src
    have HN1 : Hid (usL.length + [nilS].length ≤ 1099511627776) := Lib.hid (by have := HUN.out; simp; omega)
    go_upto_region 26 with (at_builtin; refine wp_appV rfl _ _ _ rfl (W.heap.size + 2) usL [nilS] _ _ rfl rfl HA.out.ov HX.out HA.out.size HN1.out ?_; intro u w5 ho5 hb5 hl5; obtain ⟨a5, n5, c5, hv5⟩ : ∃ a n c, u = .slice a n c := ho5.rd.shape.elim fun a h => h.elim fun c h => ⟨a, _, c, h⟩; subst hv5; have hs5 := HA.out.one.below hb5 (by omega); have H5 := Lib.hid (Sp.lay hs5 (HA.out.two.below hb5 (by omega)) (HA.out.lv.snoc (RowS.nil_ _ _ _) ho5 hl5) (HA.out.bel.trans (hb5.mono (by omega)))); clear p0 p1 p2 p3 p4 f0 f1 f2 f3 f4; obtain ⟨⟨p0, p1, p2, p3, p4⟩, f0, f1, f2, f3, f4⟩ := hs5; clear ho5 hb5 hl5)
    have H6 := Lib.hid (H5.out)
    clear p0 p1 p2 p3 p4 f0 f1 f2 f3 f4 q0 q1 q2 q3 q4 g0 g1 g2 g3 g4 hs1 hs2
    generalize w5.setCell ⟨W.heap.size, 3, none⟩ (.slice a5 n5 c5) = w6 at *
    obtain ⟨⟨p0, p1, p2, p3, p4⟩, f0, f1, f2, f3, f4⟩ := H6.out.one; obtain ⟨⟨q0, q1, q2, q3, q4⟩, g0, g1, g2, g3, g4⟩ := H6.out.two
    have hs1 : W.heap.size < w6.heap.size := H6.out.one.lt
    have hs2 : W.heap.size + 1 < w6.heap.size := H6.out.two.lt
    go_wp2
    refine bodyPost_ret (v := .agg #[.int .i64 S, .int .i64 T, .int .i64 K, .slice a5 n5 c5, .bool s]) (by simp [results, Tryd.results12, go_sem, *]) rfl ?_
    exact AnyR.done (L := (L ++ [[]])) ⟨HC.out.1, HC.out.2.1, HC.out.2.2⟩ (HFW.out.snoc HNL.out (by simp) (fun _ h => (by cases h))) H6.out hB rfl
  · have HSS : Hid (∀ w' : World, Below w3.heap.size w3 w' → w'.cell? ⟨W.heap.size, 3, none⟩ = some (.slice a2 L.length c2)) := Lib.hid (fun w' hb => (H3.out.go hb).one.1.2.2.2.1)
    clear m0 m1 m2 m3 m7 e20 e21 e30 e31 e7 e8 hk4 qT qT2
    have hw1 : IntKind.i64.wrap 1 = 1 := by rw [IntKind.wrap_i64]; rfl
    have hw2 : IntKind.i64.wrap 2 = 2 := by rw [IntKind.wrap_i64]; rfl
    rcases e6 with e6 | e6
    · subst e6
      go_upto_region 13 with (fail)
      refine wp_meet 49 18 (fun wx => ∃ M us a5 n5 c5, Hid (Few M ∧ Sp W B S T K s M us (.slice a5 n5 c5) wx)) ?_ ?_
      · intro G hG
        refine wp_region_last (S := fun w' => w'.cell? ⟨W.heap.size, 3, none⟩ = some (.slice a2 L.length c2)) (by simp) (by kernel_rfl) (by kernel_rfl) p3 (fun hH0 => ?_)
        simp only [List.dropLast_cons_cons, List.dropLast_singleton, List.getLast_cons_cons, List.getLast_singleton]
        clear p0 p1 p2 p4 f0 f1 f2 f3 f4 q0 q1 q2 q3 q4 g0 g1 g2 g3 g4 hs1 hs2
        refine wpAnyH_take (i := 0) (v := ?_) rfl (by kernel_rfl) (by kernel_rfl) (by kernel_rfl) (fun _ _ _ h => h) (Or.inl ⟨by rfl, ?_⟩) hH0 ?_
        rotate_left
        · intro w hSw; (try dsimp only at hSw); (try simp only [List.getElem_toArray, List.getElem_cons_zero, List.getElem_cons_succ]); go_simp <;> with_reducible rfl
        try simp only [Act.put, List.getElem_toArray, List.getElem_cons_zero, List.getElem_cons_succ, List.setIfInBounds_toArray, List.set_cons_zero, List.set_cons_succ]
        refine wpAnyH_take (i := 1) (v := ?_) rfl (by kernel_rfl) (by kernel_rfl) (by kernel_rfl) (fun _ _ _ h => h) (Or.inl ⟨by rfl, ?_⟩) hH0 ?_
        rotate_left
        · intro w hSw; (try dsimp only at hSw); (try simp only [List.getElem_toArray, List.getElem_cons_zero, List.getElem_cons_succ]); go_simp <;> with_reducible rfl
        try simp only [Act.put, List.getElem_toArray, List.getElem_cons_zero, List.getElem_cons_succ, List.setIfInBounds_toArray, List.set_cons_zero, List.set_cons_succ]
        refine wpAnyH_take (i := 2) (v := ?_) rfl (by kernel_rfl) (by kernel_rfl) (by kernel_rfl) (fun _ _ _ h => h) (Or.inl ⟨by rfl, ?_⟩) hH0 ?_
        rotate_left
        · intro w hSw; (try dsimp only at hSw); (try simp only [List.getElem_toArray, List.getElem_cons_zero, List.getElem_cons_succ]); go_simp <;> with_reducible rfl
        try simp only [Act.put, List.getElem_toArray, List.getElem_cons_zero, List.getElem_cons_succ, List.setIfInBounds_toArray, List.set_cons_zero, List.set_cons_succ]
        refine wpAnyH_take (i := 3) (v := ?_) rfl (by kernel_rfl) (by kernel_rfl) (by kernel_rfl) (fun _ _ _ h => h) (Or.inl ⟨by rfl, ?_⟩) hH0 ?_
        rotate_left
        · intro w hSw; (try dsimp only at hSw); (try simp only [List.getElem_toArray, List.getElem_cons_zero, List.getElem_cons_succ]); go_simp <;> with_reducible rfl
        try simp only [Act.put, List.getElem_toArray, List.getElem_cons_zero, List.getElem_cons_succ, List.setIfInBounds_toArray, List.set_cons_zero, List.set_cons_succ]
        refine wpAnyH_take (i := 5) (v := ?_) rfl (by kernel_rfl) (by kernel_rfl) (by kernel_rfl) (fun _ _ _ h => h) (Or.inl ⟨by rfl, ?_⟩) hH0 ?_
        rotate_left
        · intro w hSw; (try dsimp only at hSw); (try simp only [List.getElem_toArray, List.getElem_cons_zero, List.getElem_cons_succ]); go_simp <;> with_reducible rfl
        try simp only [Act.put, List.getElem_toArray, List.getElem_cons_zero, List.getElem_cons_succ, List.setIfInBounds_toArray, List.set_cons_zero, List.set_cons_succ]
        refine wpAnyH_take (i := 6) (v := ?_) rfl (by kernel_rfl) (by kernel_rfl) (by kernel_rfl) (fun _ _ _ h => h) (Or.inl ⟨by rfl, ?_⟩) hH0 ?_
        rotate_left
        · intro w hSw; (try dsimp only at hSw); (try simp only [List.getElem_toArray, List.getElem_cons_zero, List.getElem_cons_succ]); go_simp <;> with_reducible rfl
        try simp only [Act.put, List.getElem_toArray, List.getElem_cons_zero, List.getElem_cons_succ, List.setIfInBounds_toArray, List.set_cons_zero, List.set_cons_succ]
        refine wpAnyH_take (i := 7) (v := ?_) rfl (by kernel_rfl) (by kernel_rfl) (by kernel_rfl) (fun _ _ _ h => h) (Or.inl ⟨by rfl, ?_⟩) hH0 ?_
        rotate_left
        · intro w hSw; (try dsimp only at hSw); (try simp only [List.getElem_toArray, List.getElem_cons_zero, List.getElem_cons_succ]); go_simp <;> with_reducible rfl
        try simp only [Act.put, List.getElem_toArray, List.getElem_cons_zero, List.getElem_cons_succ, List.setIfInBounds_toArray, List.set_cons_zero, List.set_cons_succ]
        refine wpAnyH_take (i := 10) (v := ?_) rfl (by kernel_rfl) (by kernel_rfl) (by kernel_rfl) (fun _ _ _ h => h) (Or.inl ⟨by rfl, ?_⟩) hH0 ?_
        rotate_left
        · intro w hSw; (try dsimp only at hSw); (try simp only [List.getElem_toArray, List.getElem_cons_zero, List.getElem_cons_succ]); go_simp <;> with_reducible rfl
        try simp only [Act.put, List.getElem_toArray, List.getElem_cons_zero, List.getElem_cons_succ, List.setIfInBounds_toArray, List.set_cons_zero, List.set_cons_succ]
        refine wpAnyH_take (i := 11) (v := ?_) rfl (by kernel_rfl) (by kernel_rfl) (by kernel_rfl) (fun _ _ _ h => h) (Or.inl ⟨by rfl, ?_⟩) hH0 ?_
        rotate_left
        · intro w hSw; (try dsimp only at hSw); (try simp only [List.getElem_toArray, List.getElem_cons_zero, List.getElem_cons_succ]); go_simp <;> with_reducible rfl
        try simp only [Act.put, List.getElem_toArray, List.getElem_cons_zero, List.getElem_cons_succ, List.setIfInBounds_toArray, List.set_cons_zero, List.set_cons_succ]
        refine wpAnyH_take (i := 12) (v := ?_) rfl (by kernel_rfl) (by kernel_rfl) (by kernel_rfl) (fun _ _ _ h => h) (Or.inl ⟨by rfl, ?_⟩) hH0 ?_
        rotate_left
        · intro w hSw; (try dsimp only at hSw); (try simp only [List.getElem_toArray, List.getElem_cons_zero, List.getElem_cons_succ]); go_simp <;> with_reducible rfl
        try simp only [Act.put, List.getElem_toArray, List.getElem_cons_zero, List.getElem_cons_succ, List.setIfInBounds_toArray, List.set_cons_zero, List.set_cons_succ]
        refine wpAnyH_take (i := 13) (v := ?_) rfl (by kernel_rfl) (by kernel_rfl) (by kernel_rfl) (fun _ _ _ h => h) (Or.inl ⟨by rfl, ?_⟩) hH0 ?_
        rotate_left
        · intro w hSw; (try dsimp only at hSw); (try simp only [List.getElem_toArray, List.getElem_cons_zero, List.getElem_cons_succ]); go_simp <;> with_reducible rfl
        try simp only [Act.put, List.getElem_toArray, List.getElem_cons_zero, List.getElem_cons_succ, List.setIfInBounds_toArray, List.set_cons_zero, List.set_cons_succ]
        refine wpAnyH_ready (rs := [4]) (by kernel_rfl) (by simp) ?_
        refine AllReadyH.cons rfl (fun KK hK => ?_) AllReadyH.nil
        (dsimp only [List.getElem_toArray, List.getElem_cons_zero, List.getElem_cons_succ])
        rw [if_pos (by rfl)]
        go_simp
        go_at_call 25; (with_reducible refine (hK1 _).mono ?_); rintro e w4 ⟨rfl, hb4⟩; have HB4 : Hid (Below w3.heap.size w3 w4) := Lib.hid ((Below.refl _ _).drew.trans hb4); clear hb4
        refine hK.out _ _ (HSS.out _ HB4.out) (fun hH1 => ?_)
        clear hK KK hH0
        try simp only [Act.put, List.getElem_toArray, List.getElem_cons_zero, List.getElem_cons_succ, List.setIfInBounds_toArray, List.set_cons_zero, List.set_cons_succ]
        refine wpAnyH_ready (rs := [8]) (by kernel_rfl) (by simp) ?_
        refine AllReadyH.cons rfl (fun KK hK => ?_) AllReadyH.nil
        (dsimp only [List.getElem_toArray, List.getElem_cons_zero, List.getElem_cons_succ])
        rw [if_pos (by rfl)]
        go_simp
        go_at_call 25; (with_reducible refine (hK2 _).mono ?_); rintro e w5 ⟨rfl, hb5⟩; have HB5 : Hid (Below w3.heap.size w3 w5) := Lib.hid (bgo HB4.out hb5); clear hb5
        refine hK.out _ _ (HSS.out _ HB5.out) (fun hH2 => ?_)
        clear hK KK hH1
        try simp only [Act.put, List.getElem_toArray, List.getElem_cons_zero, List.getElem_cons_succ, List.setIfInBounds_toArray, List.set_cons_zero, List.set_cons_succ]
        refine wpAnyH_ready (rs := [9]) (by kernel_rfl) (by simp) ?_
        refine AllReadyH.cons rfl (fun KK hK => ?_) AllReadyH.nil
        (dsimp only [List.getElem_toArray, List.getElem_cons_zero, List.getElem_cons_succ])
        rw [if_pos (by rfl)]
        go_simp
        refine hK.out _ _ (HSS.out _ (bal HB5.out _)) (fun hH3 => ?_)
        clear hK KK hH2
        try simp only [Act.put, List.getElem_toArray, List.getElem_cons_zero, List.getElem_cons_succ, List.setIfInBounds_toArray, List.set_cons_zero, List.set_cons_succ]
        refine wpAnyH_take (i := 14) (v := ?_) rfl (by kernel_rfl) (by kernel_rfl) (by kernel_rfl) (fun _ _ _ h => h) (Or.inl ⟨by rfl, ?_⟩) hH3 ?_
        rotate_left
        · intro w hSw; (try dsimp only at hSw); (try simp only [List.getElem_toArray, List.getElem_cons_zero, List.getElem_cons_succ]); go_simp <;> with_reducible rfl
        try simp only [Act.put, List.getElem_toArray, List.getElem_cons_zero, List.getElem_cons_succ, List.setIfInBounds_toArray, List.set_cons_zero, List.set_cons_succ]
        refine wpAnyH_ready (rs := [15]) (by kernel_rfl) (by simp) ?_
        refine AllReadyH.cons rfl (fun KK hK => ?_) AllReadyH.nil
        (dsimp only [List.getElem_toArray, List.getElem_cons_zero, List.getElem_cons_succ])
        rw [if_pos (by rfl)]
        go_simp
        refine hK.out _ _ (HSS.out _ (bal (bal HB5.out _) _)) (fun hH4 => ?_)
        clear hK KK hH3
        try simp only [Act.put, List.getElem_toArray, List.getElem_cons_zero, List.getElem_cons_succ, List.setIfInBounds_toArray, List.set_cons_zero, List.set_cons_succ]
        have HA := Lib.hid (((H3.out.go HB5.out).go (b1 (.cells #[.string KA, .string KB] 9))).go (b1 (.cells #[(.slice (some ⟨w5.heap.size, 0, none⟩) 1 2)] 57)))
        have HSZ := Lib.hid (H3.out.go HB5.out).size
        have HR5 : Hid (RowS W B [KA] (.slice (some ⟨w5.heap.size, 0, none⟩) 1 2) ((w5.alloc (.cells #[.string KA, .string KB] 9)).alloc (.cells #[(.slice (some ⟨w5.heap.size, 0, none⟩) 1 2)] 57))) := Lib.hid ((RowS.own (OwnS.cut1 KA KB w5) hB HSZ.out).keep (.below (b1 (.cells #[(.slice (some ⟨w5.heap.size, 0, none⟩) 1 2)] 57))))
        have HV := Lib.hid (OwnV.oneAt (u := (.slice (some ⟨w5.heap.size, 0, none⟩) 1 2)) rfl (w5.alloc (.cells #[.string KA, .string KB] 9)) (show _ = w5.heap.size + 1 by simp)).rd.src
        have HN1 : Hid (usL.length + [(Value.slice (some ⟨w5.heap.size, 0, none⟩) 1 2)].length ≤ 1099511627776) := Lib.hid (by have := HUN.out; simp; omega)
        refine wpAnyH_ready (rs := [16]) (by kernel_rfl) (by simp) ?_
        refine AllReadyH.cons rfl (fun KK hK => ?_) AllReadyH.nil
        show ite _ _ _
        refine step_appV rfl _ _ _ rfl (W.heap.size + 2) usL [(.slice (some ⟨w5.heap.size, 0, none⟩) 1 2)] _ _ rfl rfl HA.out.ov HV.out HA.out.size HN1.out ?_
        intro u w6 ho5 hb5 hl5; obtain ⟨a5, n5, c5, hv5⟩ : ∃ a n c, u = .slice a n c := ho5.rd.shape.elim fun a h => h.elim fun c h => ⟨a, _, c, h⟩; subst hv5; have hs5 := HA.out.one.below hb5 (by omega); have hb6 := hs5.1.2.2.2.1; have H5 := Lib.hid (Sp.lay hs5 (HA.out.two.below hb5 (by omega)) (HA.out.lv.snoc HR5.out ho5 hl5) (HA.out.bel.trans (hb5.mono (by omega)))); obtain ⟨⟨p0, p1, p2, p3, p4⟩, f0, f1, f2, f3, f4⟩ := hs5; clear ho5 hb5 hl5
        refine hK.out _ _ hb6 (fun hH5 => ?_)
        clear hK KK hH4
        try simp only [Act.put, List.getElem_toArray, List.getElem_cons_zero, List.getElem_cons_succ, List.setIfInBounds_toArray, List.set_cons_zero, List.set_cons_succ]
        refine wpAnyH_take (i := 17) (v := ?_) rfl (by kernel_rfl) (by kernel_rfl) (by kernel_rfl) (fun _ _ _ h => h) (Or.inl ⟨by rfl, ?_⟩) hH5 ?_
        rotate_left
        · intro w hSw; (try dsimp only at hSw); (try simp only [List.getElem_toArray, List.getElem_cons_zero, List.getElem_cons_succ]); go_simp <;> with_reducible rfl
        try simp only [Act.put, List.getElem_toArray, List.getElem_cons_zero, List.getElem_cons_succ, List.setIfInBounds_toArray, List.set_cons_zero, List.set_cons_succ]
        refine wpAnyH_done (by kernel_rfl) ?_ _
        intro KK hK
        go_simp
        refine hK.out _ _ ?_
        exact hG _ _ ⟨[_, _, _, _, _, _, _, _, _, _, _, _, _, _, _, _, _, _], rfl, rfl⟩ ⟨_, _, _, _, _, Lib.hid ⟨HFW.out.snoc HNL.out (by simp) (sok1 HKS1.out), H5.out⟩⟩
      · clear p0 p1 p2 p3 p4 f0 f1 f2 f3 f4 q0 q1 q2 q3 q4 g0 g1 g2 g3 g4 hs1 hs2
        intro a' wz hoff hX
        obtain ⟨us, hus, rfl⟩ := hoff
        obtain ⟨M, us9, a5, n5, c5, HX⟩ := hX
        match us, hus with
        | [u0, u1, u2, u3, u4, u5, u6, u7, u8, u9, u10, u11, u12, u13, u14, u15, u16, u17], _ =>
          simp only [List.take_succ_cons, List.take_zero, List.drop_succ_cons, List.drop_zero, List.cons_append, List.nil_append]
          have H4 := Lib.hid HX.out.2
          have HF4 := Lib.hid HX.out.1
          obtain ⟨⟨p0, p1, p2, p3, p4⟩, f0, f1, f2, f3, f4⟩ := H4.out.one; obtain ⟨⟨q0, q1, q2, q3, q4⟩, g0, g1, g2, g3, g4⟩ := H4.out.two
          have hs1 : W.heap.size < wz.heap.size := H4.out.one.lt
          have hs2 : W.heap.size + 1 < wz.heap.size := H4.out.two.lt
          clear HX
          go_upto_region 26 with (fail)
          go_wp2
          refine bodyPost_ret (v := .agg #[.int .i64 S, .int .i64 T, .int .i64 K, .slice a5 n5 c5, .bool s]) (by simp [results, Tryd.results12, go_sem, *]) rfl ?_
          exact AnyR.done (L := M) ⟨HC.out.1, HC.out.2.1, HC.out.2.2⟩ (HF4.out) H4.out hB rfl
    · subst e6
      go_upto_region 13 with (fail)
      refine wp_meet 49 18 (fun wx => ∃ M us a5 n5 c5, Hid (Few M ∧ Sp W B S T K s M us (.slice a5 n5 c5) wx)) ?_ ?_
      · intro G hG
        refine wp_region_last (S := fun w' => w'.cell? ⟨W.heap.size, 3, none⟩ = some (.slice a2 L.length c2)) (by simp) (by kernel_rfl) (by kernel_rfl) p3 (fun hH0 => ?_)
        simp only [List.dropLast_cons_cons, List.dropLast_singleton, List.getLast_cons_cons, List.getLast_singleton]
        clear p0 p1 p2 p4 f0 f1 f2 f3 f4 q0 q1 q2 q3 q4 g0 g1 g2 g3 g4 hs1 hs2
        refine wpAnyH_take (i := 0) (v := ?_) rfl (by kernel_rfl) (by kernel_rfl) (by kernel_rfl) (fun _ _ _ h => h) (Or.inl ⟨by rfl, ?_⟩) hH0 ?_
        rotate_left
        · intro w hSw; (try dsimp only at hSw); (try simp only [List.getElem_toArray, List.getElem_cons_zero, List.getElem_cons_succ]); go_simp <;> with_reducible rfl
        try simp only [Act.put, List.getElem_toArray, List.getElem_cons_zero, List.getElem_cons_succ, List.setIfInBounds_toArray, List.set_cons_zero, List.set_cons_succ]
        refine wpAnyH_take (i := 1) (v := ?_) rfl (by kernel_rfl) (by kernel_rfl) (by kernel_rfl) (fun _ _ _ h => h) (Or.inl ⟨by rfl, ?_⟩) hH0 ?_
        rotate_left
        · intro w hSw; (try dsimp only at hSw); (try simp only [List.getElem_toArray, List.getElem_cons_zero, List.getElem_cons_succ]); go_simp <;> with_reducible rfl
        try simp only [Act.put, List.getElem_toArray, List.getElem_cons_zero, List.getElem_cons_succ, List.setIfInBounds_toArray, List.set_cons_zero, List.set_cons_succ]
        refine wpAnyH_take (i := 2) (v := ?_) rfl (by kernel_rfl) (by kernel_rfl) (by kernel_rfl) (fun _ _ _ h => h) (Or.inl ⟨by rfl, ?_⟩) hH0 ?_
        rotate_left
        · intro w hSw; (try dsimp only at hSw); (try simp only [List.getElem_toArray, List.getElem_cons_zero, List.getElem_cons_succ]); go_simp <;> with_reducible rfl
        try simp only [Act.put, List.getElem_toArray, List.getElem_cons_zero, List.getElem_cons_succ, List.setIfInBounds_toArray, List.set_cons_zero, List.set_cons_succ]
        refine wpAnyH_take (i := 3) (v := ?_) rfl (by kernel_rfl) (by kernel_rfl) (by kernel_rfl) (fun _ _ _ h => h) (Or.inl ⟨by rfl, ?_⟩) hH0 ?_
        rotate_left
        · intro w hSw; (try dsimp only at hSw); (try simp only [List.getElem_toArray, List.getElem_cons_zero, List.getElem_cons_succ]); go_simp <;> with_reducible rfl
        try simp only [Act.put, List.getElem_toArray, List.getElem_cons_zero, List.getElem_cons_succ, List.setIfInBounds_toArray, List.set_cons_zero, List.set_cons_succ]
        refine wpAnyH_take (i := 5) (v := ?_) rfl (by kernel_rfl) (by kernel_rfl) (by kernel_rfl) (fun _ _ _ h => h) (Or.inl ⟨by rfl, ?_⟩) hH0 ?_
        rotate_left
        · intro w hSw; (try dsimp only at hSw); (try simp only [List.getElem_toArray, List.getElem_cons_zero, List.getElem_cons_succ]); go_simp <;> with_reducible rfl
        try simp only [Act.put, List.getElem_toArray, List.getElem_cons_zero, List.getElem_cons_succ, List.setIfInBounds_toArray, List.set_cons_zero, List.set_cons_succ]
        refine wpAnyH_take (i := 6) (v := ?_) rfl (by kernel_rfl) (by kernel_rfl) (by kernel_rfl) (fun _ _ _ h => h) (Or.inl ⟨by rfl, ?_⟩) hH0 ?_
        rotate_left
        · intro w hSw; (try dsimp only at hSw); (try simp only [List.getElem_toArray, List.getElem_cons_zero, List.getElem_cons_succ]); go_simp <;> with_reducible rfl
        try simp only [Act.put, List.getElem_toArray, List.getElem_cons_zero, List.getElem_cons_succ, List.setIfInBounds_toArray, List.set_cons_zero, List.set_cons_succ]
        refine wpAnyH_take (i := 7) (v := ?_) rfl (by kernel_rfl) (by kernel_rfl) (by kernel_rfl) (fun _ _ _ h => h) (Or.inl ⟨by rfl, ?_⟩) hH0 ?_
        rotate_left
        · intro w hSw; (try dsimp only at hSw); (try simp only [List.getElem_toArray, List.getElem_cons_zero, List.getElem_cons_succ]); go_simp <;> with_reducible rfl
        try simp only [Act.put, List.getElem_toArray, List.getElem_cons_zero, List.getElem_cons_succ, List.setIfInBounds_toArray, List.set_cons_zero, List.set_cons_succ]
        refine wpAnyH_take (i := 10) (v := ?_) rfl (by kernel_rfl) (by kernel_rfl) (by kernel_rfl) (fun _ _ _ h => h) (Or.inl ⟨by rfl, ?_⟩) hH0 ?_
        rotate_left
        · intro w hSw; (try dsimp only at hSw); (try simp only [List.getElem_toArray, List.getElem_cons_zero, List.getElem_cons_succ]); go_simp <;> with_reducible rfl
        try simp only [Act.put, List.getElem_toArray, List.getElem_cons_zero, List.getElem_cons_succ, List.setIfInBounds_toArray, List.set_cons_zero, List.set_cons_succ]
        refine wpAnyH_take (i := 11) (v := ?_) rfl (by kernel_rfl) (by kernel_rfl) (by kernel_rfl) (fun _ _ _ h => h) (Or.inl ⟨by rfl, ?_⟩) hH0 ?_
        rotate_left
        · intro w hSw; (try dsimp only at hSw); (try simp only [List.getElem_toArray, List.getElem_cons_zero, List.getElem_cons_succ]); go_simp <;> with_reducible rfl
        try simp only [Act.put, List.getElem_toArray, List.getElem_cons_zero, List.getElem_cons_succ, List.setIfInBounds_toArray, List.set_cons_zero, List.set_cons_succ]
        refine wpAnyH_take (i := 12) (v := ?_) rfl (by kernel_rfl) (by kernel_rfl) (by kernel_rfl) (fun _ _ _ h => h) (Or.inl ⟨by rfl, ?_⟩) hH0 ?_
        rotate_left
        · intro w hSw; (try dsimp only at hSw); (try simp only [List.getElem_toArray, List.getElem_cons_zero, List.getElem_cons_succ]); go_simp <;> with_reducible rfl
        try simp only [Act.put, List.getElem_toArray, List.getElem_cons_zero, List.getElem_cons_succ, List.setIfInBounds_toArray, List.set_cons_zero, List.set_cons_succ]
        refine wpAnyH_take (i := 13) (v := ?_) rfl (by kernel_rfl) (by kernel_rfl) (by kernel_rfl) (fun _ _ _ h => h) (Or.inl ⟨by rfl, ?_⟩) hH0 ?_
        rotate_left
        · intro w hSw; (try dsimp only at hSw); (try simp only [List.getElem_toArray, List.getElem_cons_zero, List.getElem_cons_succ]); go_simp <;> with_reducible rfl
        try simp only [Act.put, List.getElem_toArray, List.getElem_cons_zero, List.getElem_cons_succ, List.setIfInBounds_toArray, List.set_cons_zero, List.set_cons_succ]
        refine wpAnyH_ready (rs := [4]) (by kernel_rfl) (by simp) ?_
        refine AllReadyH.cons rfl (fun KK hK => ?_) AllReadyH.nil
        (dsimp only [List.getElem_toArray, List.getElem_cons_zero, List.getElem_cons_succ])
        rw [if_pos (by rfl)]
        go_simp
        go_at_call 25; (with_reducible refine (hK1 _).mono ?_); rintro e w4 ⟨rfl, hb4⟩; have HB4 : Hid (Below w3.heap.size w3 w4) := Lib.hid ((Below.refl _ _).drew.trans hb4); clear hb4
        refine hK.out _ _ (HSS.out _ HB4.out) (fun hH1 => ?_)
        clear hK KK hH0
        try simp only [Act.put, List.getElem_toArray, List.getElem_cons_zero, List.getElem_cons_succ, List.setIfInBounds_toArray, List.set_cons_zero, List.set_cons_succ]
        refine wpAnyH_ready (rs := [8]) (by kernel_rfl) (by simp) ?_
        refine AllReadyH.cons rfl (fun KK hK => ?_) AllReadyH.nil
        (dsimp only [List.getElem_toArray, List.getElem_cons_zero, List.getElem_cons_succ])
        rw [if_pos (by rfl)]
        go_simp
        go_at_call 25; (with_reducible refine (hK2 _).mono ?_); rintro e w5 ⟨rfl, hb5⟩; have HB5 : Hid (Below w3.heap.size w3 w5) := Lib.hid (bgo HB4.out hb5); clear hb5
        refine hK.out _ _ (HSS.out _ HB5.out) (fun hH2 => ?_)
        clear hK KK hH1
        try simp only [Act.put, List.getElem_toArray, List.getElem_cons_zero, List.getElem_cons_succ, List.setIfInBounds_toArray, List.set_cons_zero, List.set_cons_succ]
        refine wpAnyH_ready (rs := [9]) (by kernel_rfl) (by simp) ?_
        refine AllReadyH.cons rfl (fun KK hK => ?_) AllReadyH.nil
        (dsimp only [List.getElem_toArray, List.getElem_cons_zero, List.getElem_cons_succ])
        rw [if_pos (by rfl)]
        go_simp
        refine hK.out _ _ (HSS.out _ (bal HB5.out _)) (fun hH3 => ?_)
        clear hK KK hH2
        try simp only [Act.put, List.getElem_toArray, List.getElem_cons_zero, List.getElem_cons_succ, List.setIfInBounds_toArray, List.set_cons_zero, List.set_cons_succ]
        refine wpAnyH_take (i := 14) (v := ?_) rfl (by kernel_rfl) (by kernel_rfl) (by kernel_rfl) (fun _ _ _ h => h) (Or.inl ⟨by rfl, ?_⟩) hH3 ?_
        rotate_left
        · intro w hSw; (try dsimp only at hSw); (try simp only [List.getElem_toArray, List.getElem_cons_zero, List.getElem_cons_succ]); go_simp <;> with_reducible rfl
        try simp only [Act.put, List.getElem_toArray, List.getElem_cons_zero, List.getElem_cons_succ, List.setIfInBounds_toArray, List.set_cons_zero, List.set_cons_succ]
        refine wpAnyH_ready (rs := [15]) (by kernel_rfl) (by simp) ?_
        refine AllReadyH.cons rfl (fun KK hK => ?_) AllReadyH.nil
        (dsimp only [List.getElem_toArray, List.getElem_cons_zero, List.getElem_cons_succ])
        rw [if_pos (by rfl)]
        go_simp
        refine hK.out _ _ (HSS.out _ (bal (bal HB5.out _) _)) (fun hH4 => ?_)
        clear hK KK hH3
        try simp only [Act.put, List.getElem_toArray, List.getElem_cons_zero, List.getElem_cons_succ, List.setIfInBounds_toArray, List.set_cons_zero, List.set_cons_succ]
        have HA := Lib.hid (((H3.out.go HB5.out).go (b1 (.cells #[.string KA, .string KB] 9))).go (b1 (.cells #[(.slice (some ⟨w5.heap.size, 0, none⟩) 2 2)] 57)))
        have HSZ := Lib.hid (H3.out.go HB5.out).size
        have HR5 : Hid (RowS W B [KA, KB] (.slice (some ⟨w5.heap.size, 0, none⟩) 2 2) ((w5.alloc (.cells #[.string KA, .string KB] 9)).alloc (.cells #[(.slice (some ⟨w5.heap.size, 0, none⟩) 2 2)] 57))) := Lib.hid ((RowS.own (OwnS.cut2 KA KB w5) hB HSZ.out).keep (.below (b1 (.cells #[(.slice (some ⟨w5.heap.size, 0, none⟩) 2 2)] 57))))
        have HV := Lib.hid (OwnV.oneAt (u := (.slice (some ⟨w5.heap.size, 0, none⟩) 2 2)) rfl (w5.alloc (.cells #[.string KA, .string KB] 9)) (show _ = w5.heap.size + 1 by simp)).rd.src
        have HN1 : Hid (usL.length + [(Value.slice (some ⟨w5.heap.size, 0, none⟩) 2 2)].length ≤ 1099511627776) := Lib.hid (by have := HUN.out; simp; omega)
        refine wpAnyH_ready (rs := [16]) (by kernel_rfl) (by simp) ?_
        refine AllReadyH.cons rfl (fun KK hK => ?_) AllReadyH.nil
        show ite _ _ _
        refine step_appV rfl _ _ _ rfl (W.heap.size + 2) usL [(.slice (some ⟨w5.heap.size, 0, none⟩) 2 2)] _ _ rfl rfl HA.out.ov HV.out HA.out.size HN1.out ?_
        intro u w6 ho5 hb5 hl5; obtain ⟨a5, n5, c5, hv5⟩ : ∃ a n c, u = .slice a n c := ho5.rd.shape.elim fun a h => h.elim fun c h => ⟨a, _, c, h⟩; subst hv5; have hs5 := HA.out.one.below hb5 (by omega); have hb6 := hs5.1.2.2.2.1; have H5 := Lib.hid (Sp.lay hs5 (HA.out.two.below hb5 (by omega)) (HA.out.lv.snoc HR5.out ho5 hl5) (HA.out.bel.trans (hb5.mono (by omega)))); obtain ⟨⟨p0, p1, p2, p3, p4⟩, f0, f1, f2, f3, f4⟩ := hs5; clear ho5 hb5 hl5
        refine hK.out _ _ hb6 (fun hH5 => ?_)
        clear hK KK hH4
        try simp only [Act.put, List.getElem_toArray, List.getElem_cons_zero, List.getElem_cons_succ, List.setIfInBounds_toArray, List.set_cons_zero, List.set_cons_succ]
        refine wpAnyH_take (i := 17) (v := ?_) rfl (by kernel_rfl) (by kernel_rfl) (by kernel_rfl) (fun _ _ _ h => h) (Or.inl ⟨by rfl, ?_⟩) hH5 ?_
        rotate_left
        · intro w hSw; (try dsimp only at hSw); (try simp only [List.getElem_toArray, List.getElem_cons_zero, List.getElem_cons_succ]); go_simp <;> with_reducible rfl
        try simp only [Act.put, List.getElem_toArray, List.getElem_cons_zero, List.getElem_cons_succ, List.setIfInBounds_toArray, List.set_cons_zero, List.set_cons_succ]
        refine wpAnyH_done (by kernel_rfl) ?_ _
        intro KK hK
        go_simp
        refine hK.out _ _ ?_
        exact hG _ _ ⟨[_, _, _, _, _, _, _, _, _, _, _, _, _, _, _, _, _, _], rfl, rfl⟩ ⟨_, _, _, _, _, Lib.hid ⟨HFW.out.snoc HNL.out (by simp) (sok2 HKS1.out HKS2.out), H5.out⟩⟩
      · clear p0 p1 p2 p3 p4 f0 f1 f2 f3 f4 q0 q1 q2 q3 q4 g0 g1 g2 g3 g4 hs1 hs2
        intro a' wz hoff hX
        obtain ⟨us, hus, rfl⟩ := hoff
        obtain ⟨M, us9, a5, n5, c5, HX⟩ := hX
        match us, hus with
        | [u0, u1, u2, u3, u4, u5, u6, u7, u8, u9, u10, u11, u12, u13, u14, u15, u16, u17], _ =>
          simp only [List.take_succ_cons, List.take_zero, List.drop_succ_cons, List.drop_zero, List.cons_append, List.nil_append]
          have H4 := Lib.hid HX.out.2
          have HF4 := Lib.hid HX.out.1
          obtain ⟨⟨p0, p1, p2, p3, p4⟩, f0, f1, f2, f3, f4⟩ := H4.out.one; obtain ⟨⟨q0, q1, q2, q3, q4⟩, g0, g1, g2, g3, g4⟩ := H4.out.two
          have hs1 : W.heap.size < wz.heap.size := H4.out.one.lt
          have hs2 : W.heap.size + 1 < wz.heap.size := H4.out.two.lt
          clear HX
          go_upto_region 26 with (fail)
          go_wp2
          refine bodyPost_ret (v := .agg #[.int .i64 S, .int .i64 T, .int .i64 K, .slice a5 n5 c5, .bool s]) (by simp [results, Tryd.results12, go_sem, *]) rfl ?_
          exact AnyR.done (L := M) ⟨HC.out.1, HC.out.2.1, HC.out.2.2⟩ (HF4.out) H4.out hB rfl
  · have HA := Lib.hid ((H3.out.go (b1 (.cells #[.string ⟨#[]⟩] 9))).go (b1 (.cells #[(.slice (some ⟨w3.heap.size, 0, none⟩) 1 1)] 57)))
    have HR5 : Hid (RowS W B [⟨#[]⟩] (.slice (some ⟨w3.heap.size, 0, none⟩) 1 1) ((w3.alloc (.cells #[.string ⟨#[]⟩] 9)).alloc (.cells #[(.slice (some ⟨w3.heap.size, 0, none⟩) 1 1)] 57))) := Lib.hid ((RowS.own (OwnS.one ⟨#[]⟩ w3) hB H3.out.size).keep (.below (b1 (.cells #[(.slice (some ⟨w3.heap.size, 0, none⟩) 1 1)] 57))))
    have HV : Hid (OwnV (W.heap.size + 2) [(.slice (some ⟨w3.heap.size, 0, none⟩) 1 1)] (.slice (some ⟨w3.heap.size + 1, 0, none⟩) 1 1) ((w3.alloc (.cells #[.string ⟨#[]⟩] 9)).alloc (.cells #[(.slice (some ⟨w3.heap.size, 0, none⟩) 1 1)] 57))) := Lib.hid ((OwnV.oneAt rfl (w3.alloc (.cells #[.string ⟨#[]⟩] 9)) (by simp)).mono (by have := H3.out.size; omega))
    have HN1 : Hid ([(Value.slice (some ⟨w3.heap.size, 0, none⟩) 1 1)].length + usL.length ≤ 1099511627776) := Lib.hid (by have := HUN.out; simp; omega)
    go_upto_region 26 with (at_builtin; refine wp_appV rfl _ _ _ rfl (W.heap.size + 2) [(.slice (some ⟨w3.heap.size, 0, none⟩) 1 1)] usL _ _ rfl rfl HV.out HA.out.ov.rd.src HA.out.size HN1.out ?_; intro u w5 ho5 hb5 hl5; obtain ⟨a5, n5, c5, hv5⟩ : ∃ a n c, u = .slice a n c := ho5.rd.shape.elim fun a h => h.elim fun c h => ⟨a, _, c, h⟩; subst hv5; have hs5 := HA.out.one.below hb5 (by omega); have H5 := Lib.hid (Sp.lay hs5 (HA.out.two.below hb5 (by omega)) (HA.out.lv.cons HR5.out HV.out ho5 hl5) (HA.out.bel.trans (hb5.mono (by omega)))); clear p0 p1 p2 p3 p4 f0 f1 f2 f3 f4; obtain ⟨⟨p0, p1, p2, p3, p4⟩, f0, f1, f2, f3, f4⟩ := hs5; clear ho5 hb5 hl5)
    have H6 := Lib.hid (H5.out)
    clear p0 p1 p2 p3 p4 f0 f1 f2 f3 f4 q0 q1 q2 q3 q4 g0 g1 g2 g3 g4 hs1 hs2
    generalize w5.setCell ⟨W.heap.size, 3, none⟩ (.slice a5 n5 c5) = w6 at *
    obtain ⟨⟨p0, p1, p2, p3, p4⟩, f0, f1, f2, f3, f4⟩ := H6.out.one; obtain ⟨⟨q0, q1, q2, q3, q4⟩, g0, g1, g2, g3, g4⟩ := H6.out.two
    have hs1 : W.heap.size < w6.heap.size := H6.out.one.lt
    have hs2 : W.heap.size + 1 < w6.heap.size := H6.out.two.lt
    go_wp2
    refine bodyPost_ret (v := .agg #[.int .i64 S, .int .i64 T, .int .i64 K, .slice a5 n5 c5, .bool s]) (by simp [results, Tryd.results12, go_sem, *]) rfl ?_
    exact AnyR.done (L := ([⟨#[]⟩] :: L)) ⟨HC.out.1, HC.out.2.1, HC.out.2.2⟩ (HFW.out.cons HNL.out (by simp) (sok1 (by decide))) H6.out hB rfl
  · rcases e7 with e7 | e7
    · subst e7
      go_upto_region 26 with (refine wp_makeV rfl _ _ rfl 41 rfl rfl (by omega) ?_; intro w5 ho5 hb5 hz5; have H5 := Lib.hid (Sp.lay (H3.out.one.go hb5) (H3.out.two.go hb5) (MxS.made (B := B) (ho5.mono H3.out.size)) (bgo H3.out.bel hb5)); have hs5 := H3.out.one.go hb5; clear p0 p1 p2 p3 p4 f0 f1 f2 f3 f4; obtain ⟨⟨p0, p1, p2, p3, p4⟩, f0, f1, f2, f3, f4⟩ := hs5; clear ho5 hb5)
      have H6 := Lib.hid (H5.out)
      clear p0 p1 p2 p3 p4 f0 f1 f2 f3 f4 q0 q1 q2 q3 q4 g0 g1 g2 g3 g4 hs1 hs2
      generalize w5.setCell ⟨W.heap.size, 3, none⟩ (.slice (some ⟨w3.heap.size, 0, none⟩) 41 41) = w6 at *
      obtain ⟨⟨p0, p1, p2, p3, p4⟩, f0, f1, f2, f3, f4⟩ := H6.out.one; obtain ⟨⟨q0, q1, q2, q3, q4⟩, g0, g1, g2, g3, g4⟩ := H6.out.two
      have hs1 : W.heap.size < w6.heap.size := H6.out.one.lt
      have hs2 : W.heap.size + 1 < w6.heap.size := H6.out.two.lt
      go_wp2
      refine bodyPost_ret (v := .agg #[.int .i64 S, .int .i64 T, .int .i64 K, .slice (some ⟨w3.heap.size, 0, none⟩) 41 41, .bool s]) (by simp [results, Tryd.results12, go_sem, *]) rfl ?_
      exact AnyR.done (L := (List.replicate 41 [])) ⟨HC.out.1, HC.out.2.1, HC.out.2.2⟩ (Few.rep (by decide)) H6.out hB rfl
    · subst e7
      go_upto_region 26 with (refine wp_makeV rfl _ _ rfl 42 rfl rfl (by omega) ?_; intro w5 ho5 hb5 hz5; have H5 := Lib.hid (Sp.lay (H3.out.one.go hb5) (H3.out.two.go hb5) (MxS.made (B := B) (ho5.mono H3.out.size)) (bgo H3.out.bel hb5)); have hs5 := H3.out.one.go hb5; clear p0 p1 p2 p3 p4 f0 f1 f2 f3 f4; obtain ⟨⟨p0, p1, p2, p3, p4⟩, f0, f1, f2, f3, f4⟩ := hs5; clear ho5 hb5)
      have H6 := Lib.hid (H5.out)
      clear p0 p1 p2 p3 p4 f0 f1 f2 f3 f4 q0 q1 q2 q3 q4 g0 g1 g2 g3 g4 hs1 hs2
      generalize w5.setCell ⟨W.heap.size, 3, none⟩ (.slice (some ⟨w3.heap.size, 0, none⟩) 42 42) = w6 at *
      obtain ⟨⟨p0, p1, p2, p3, p4⟩, f0, f1, f2, f3, f4⟩ := H6.out.one; obtain ⟨⟨q0, q1, q2, q3, q4⟩, g0, g1, g2, g3, g4⟩ := H6.out.two
      have hs1 : W.heap.size < w6.heap.size := H6.out.one.lt
      have hs2 : W.heap.size + 1 < w6.heap.size := H6.out.two.lt
      go_wp2
      refine bodyPost_ret (v := .agg #[.int .i64 S, .int .i64 T, .int .i64 K, .slice (some ⟨w3.heap.size, 0, none⟩) 42 42, .bool s]) (by simp [results, Tryd.results12, go_sem, *]) rfl ?_
      exact AnyR.done (L := (List.replicate 42 [])) ⟨HC.out.1, HC.out.2.1, HC.out.2.2⟩ (Few.rep (by decide)) H6.out hB rfl
  · have hz40 : (39 : Nat) < (List.replicate 40 ([] : List ByteArray)).length := by simp
    go_upto_region 20 with (refine wp_makeV rfl _ _ rfl 40 rfl rfl (by omega) ?_; intro w5 ho5 hb5 hz5; have H5 := Lib.hid (Sp.lay (H3.out.one.go hb5) (H3.out.two.go hb5) (MxS.made (B := B) (ho5.mono H3.out.size)) (bgo H3.out.bel hb5)); have hs5 := H3.out.one.go hb5; clear p0 p1 p2 p3 p4 f0 f1 f2 f3 f4; obtain ⟨⟨p0, p1, p2, p3, p4⟩, f0, f1, f2, f3, f4⟩ := hs5; clear ho5 hb5)
    obtain ⟨gL, hgL⟩ : ∃ gL, w3.heap.size = gL := ⟨_, rfl⟩
    have hgB : W.heap.size + 2 ≤ gL := by rw [← hgL]; exact H3.out.size
    rw [hgL] at H5 hz5 ⊢
    have H6 := Lib.hid (H5.out)
    clear p0 p1 p2 p3 p4 f0 f1 f2 f3 f4 q0 q1 q2 q3 q4 g0 g1 g2 g3 g4 hs1 hs2
    generalize w5.setCell ⟨W.heap.size, 3, none⟩ (.slice (some ⟨gL, 0, none⟩) 40 40) = w6 at *
    obtain ⟨⟨p0, p1, p2, p3, p4⟩, f0, f1, f2, f3, f4⟩ := H6.out.one; obtain ⟨⟨q0, q1, q2, q3, q4⟩, g0, g1, g2, g3, g4⟩ := H6.out.two
    have hs1 : W.heap.size < w6.heap.size := H6.out.one.lt
    have hs2 : W.heap.size + 1 < w6.heap.size := H6.out.two.lt
    obtain ⟨gl, hel, -, -, hgl, hcl⟩ := H6.out.ov.cells (by simp)
    cases hel
    obtain ⟨hc39, hf39⟩ := hcl 39 (by simp)
    have hc39' : w6.cell? ⟨gL, 39, none⟩ = some nilS := hc39
    have hg1 : ¬ gL = W.heap.size := by omega
    have hg2 : ¬ W.heap.size = gL := by omega
    have hg3 : ¬ gL = W.heap.size + 1 := by omega
    have hg4 : ¬ W.heap.size + 1 = gL := by omega
    have HX := Lib.hid (by have h := ((H6.out.go (b1 (.cells #[.string ⟨#[109]⟩] 9))).set hgB hz40 (RowS.own (OwnS.one ⟨#[109]⟩ w6) hB H6.out.size)).setT 549755813888; rw [alloc_set _ _ hgl, alloc_set _ _ (by simp; omega)] at h; exact h)
    clear hc39 hcl hgL
    go_upto_region 22 with (fail)
    clear hc39' hf39 hgl
    obtain ⟨U1, hU1⟩ : ∃ U1 : Value, (.slice (some ⟨w6.heap.size, 0, none⟩) 1 1) = U1 := ⟨_, rfl⟩
    rw [hU1] at HX ⊢
    have H7 := Lib.hid (HX.out)
    clear p0 p1 p2 p3 p4 f0 f1 f2 f3 f4 q0 q1 q2 q3 q4 g0 g1 g2 g3 g4 hs1 hs2
    generalize ((w6.setCell ⟨gL, 39, none⟩ U1).setCell ⟨W.heap.size, 1, none⟩ (.int .i64 549755813888)).alloc (.cells #[.string ⟨#[109]⟩] 9) = w7 at *
    obtain ⟨⟨p0, p1, p2, p3, p4⟩, f0, f1, f2, f3, f4⟩ := H7.out.one; obtain ⟨⟨q0, q1, q2, q3, q4⟩, g0, g1, g2, g3, g4⟩ := H7.out.two
    have hs1 : W.heap.size < w7.heap.size := H7.out.one.lt
    have hs2 : W.heap.size + 1 < w7.heap.size := H7.out.two.lt
    clear HX H6 hU1
    rcases e7 with e7 | e7
    · subst e7
      go_upto_region 26 with (fail)
      go_wp2
      refine bodyPost_ret (v := .agg #[.int .i64 S, .int .i64 549755813888, .int .i64 K, .slice (some ⟨gL, 0, none⟩) 40 40, .bool s]) (by simp [results, Tryd.results12, go_sem, *]) rfl ?_
      exact AnyR.done (L := ((List.replicate 40 []).set 39 [(⟨#[109]⟩ : ByteArray)])) ⟨HC.out.1, ⟨by dsimp only; omega, by dsimp only; omega⟩, HC.out.2.2⟩ ((Few.rep (by decide)).set (by simp) (sok1 (by decide))) H7.out hB rfl
    · subst e7
      have HA := Lib.hid ((H7.out.go (b1 (.cells #[.string ⟨#[110]⟩] 9))).go (b1 (.cells #[(.slice (some ⟨w7.heap.size, 0, none⟩) 1 1)] 57)))
      have HR5 : Hid (RowS W B [⟨#[110]⟩] (.slice (some ⟨w7.heap.size, 0, none⟩) 1 1) ((w7.alloc (.cells #[.string ⟨#[110]⟩] 9)).alloc (.cells #[(.slice (some ⟨w7.heap.size, 0, none⟩) 1 1)] 57))) := Lib.hid ((RowS.own (OwnS.one ⟨#[110]⟩ w7) hB H7.out.size).keep (.below (b1 (.cells #[(.slice (some ⟨w7.heap.size, 0, none⟩) 1 1)] 57))))
      have HV := Lib.hid (OwnV.oneAt (u := (.slice (some ⟨w7.heap.size, 0, none⟩) 1 1)) rfl (w7.alloc (.cells #[.string ⟨#[110]⟩] 9)) (show _ = w7.heap.size + 1 by simp)).rd.src
      have HN1 : Hid (((List.replicate 40 nilS).set 39 U1).length + [((.slice (some ⟨w7.heap.size, 0, none⟩) 1 1) : Value)].length ≤ 1099511627776) := Lib.hid (by simp)
      go_upto_region 24 with (at_builtin; refine wp_appV rfl _ _ _ rfl (W.heap.size + 2) ((List.replicate 40 nilS).set 39 U1) [(.slice (some ⟨w7.heap.size, 0, none⟩) 1 1)] _ _ rfl rfl HA.out.ov HV.out HA.out.size HN1.out ?_; intro u w5 ho5 hb5 hl5; obtain ⟨a5, n5, c5, hv5⟩ : ∃ a n c, u = .slice a n c := ho5.rd.shape.elim fun a h => h.elim fun c h => ⟨a, _, c, h⟩; subst hv5; have hs5 := HA.out.one.below hb5 (by omega); have H5 := Lib.hid (Sp.lay hs5 (HA.out.two.below hb5 (by omega)) (HA.out.lv.snoc HR5.out ho5 hl5) (HA.out.bel.trans (hb5.mono (by omega)))); clear p0 p1 p2 p3 p4 f0 f1 f2 f3 f4; obtain ⟨⟨p0, p1, p2, p3, p4⟩, f0, f1, f2, f3, f4⟩ := hs5; clear ho5 hb5 hl5)
      have H8 := Lib.hid (H5.out)
      clear p0 p1 p2 p3 p4 f0 f1 f2 f3 f4 q0 q1 q2 q3 q4 g0 g1 g2 g3 g4 hs1 hs2
      generalize w5.setCell ⟨W.heap.size, 3, none⟩ (.slice a5 n5 c5) = w8 at *
      obtain ⟨⟨p0, p1, p2, p3, p4⟩, f0, f1, f2, f3, f4⟩ := H8.out.one; obtain ⟨⟨q0, q1, q2, q3, q4⟩, g0, g1, g2, g3, g4⟩ := H8.out.two
      have hs1 : W.heap.size < w8.heap.size := H8.out.one.lt
      have hs2 : W.heap.size + 1 < w8.heap.size := H8.out.two.lt
      clear HA HR5 HV HN1 H5 H7
      obtain ⟨ax, cx, hex⟩ := H8.out.ov.rd.shape
      obtain ⟨rfl, rfl, rfl⟩ : a5 = ax ∧ n5 = 41 ∧ c5 = cx := by simp only [Value.slice.injEq] at hex; exact ⟨hex.1, by rw [hex.2.1]; simp, hex.2.2⟩
      obtain ⟨gl, rfl, -, hgb, hgl, hcl⟩ := H8.out.ov.cells (by simp)
      obtain ⟨hc39, hf39⟩ := hcl 39 (by simp)
      have hz41 : (39 : Nat) < (((List.replicate 40 []).set 39 [(⟨#[109]⟩ : ByteArray)]) ++ [[(⟨#[110]⟩ : ByteArray)]]).length := by simp
      generalize (((List.replicate 40 nilS).set 39 U1) ++ [(Value.slice (some ⟨w7.heap.size, 0, none⟩) 1 1)]).getD 39 nilS = xx at *
      have hg1 : ¬ gl = W.heap.size := by omega
      have hg2 : ¬ W.heap.size = gl := by omega
      have hg3 : ¬ gl = W.heap.size + 1 := by omega
      have hg4 : ¬ W.heap.size + 1 = gl := by omega
      have HX := Lib.hid ((H8.out.set hgb hz41 (RowS.nil_ W B w8)).setT 1099511627776)
      clear hcl
      go_upto_region 26 with (fail)
      clear hc39 hf39 hgl
      have H9 := Lib.hid (HX.out)
      clear p0 p1 p2 p3 p4 f0 f1 f2 f3 f4 q0 q1 q2 q3 q4 g0 g1 g2 g3 g4 hs1 hs2
      generalize (w8.setCell ⟨gl, 39, none⟩ nilS).setCell ⟨W.heap.size, 1, none⟩ (.int .i64 1099511627776) = w9 at *
      obtain ⟨⟨p0, p1, p2, p3, p4⟩, f0, f1, f2, f3, f4⟩ := H9.out.one; obtain ⟨⟨q0, q1, q2, q3, q4⟩, g0, g1, g2, g3, g4⟩ := H9.out.two
      have hs1 : W.heap.size < w9.heap.size := H9.out.one.lt
      have hs2 : W.heap.size + 1 < w9.heap.size := H9.out.two.lt
      go_wp2
      refine bodyPost_ret (v := .agg #[.int .i64 S, .int .i64 1099511627776, .int .i64 K, .slice (some ⟨gl, 0, none⟩) 41 c5, .bool s]) (by simp [results, Tryd.results12, go_sem, *]) rfl ?_
      exact AnyR.done (L := ((((List.replicate 40 []).set 39 [(⟨#[109]⟩ : ByteArray)]) ++ [[(⟨#[110]⟩ : ByteArray)]]).set 39 [])) ⟨HC.out.1, ⟨by dsimp only; omega, by dsimp only; omega⟩, HC.out.2.2⟩ ((((Few.rep (by decide)).set (by simp) (sok1 (by decide))).snoc (by simp) (by simp) (sok1 (show (⟨#[110]⟩ : ByteArray).size ≤ maxLen by decide))).set (by simp) (fun _ h => (by cases h))) H9.out hB rfl
  · go_upto_region 26 with (fail)
    go_wp2
    refine bodyPost_ret (v := .agg #[.int .i64 S, .int .i64 T, .int .i64 K, .slice a2 L.length c2, .bool s]) (by simp [results, Tryd.results12, go_sem, *]) rfl ?_
    exact AnyR.done (L := L) ⟨HC.out.1, HC.out.2.1, HC.out.2.2⟩ (HFW.out) H3.out hB rfl
end Go.Proofs.YtdifilhfmbpalaaDoor
