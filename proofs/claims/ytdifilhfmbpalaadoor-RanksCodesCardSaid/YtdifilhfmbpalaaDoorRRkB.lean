/- Levels in a row of the call's own, their rows readable; the reference's sum and position. -/
import Derived.Test.YtdifilhfmbpalaaDoorRkU
import Derived.Test.YtdifilhfmbpalaaDoorRSrtK
import Derived.Test.YtdifilhfmbpalaaDoorRefSat
namespace Go.Proofs.YtdifilhfmbpalaaDoor
open Go.RowKit
set_option linter.unusedVariables false
set_option linter.unusedSimpArgs false
set_option maxRecDepth 100000 in
theorem rsumR_any (a b : Int) (w : World) (a0 : -9223372036854775808 ≤ a) (a1 : a ≤ 9223372036854775807) (b0 : -9223372036854775808 ≤ b) (b1 : b ≤ 9223372036854775807) :
    Calls Tryd.prog 39 #[.int .i64 a, .int .i64 b] w fun e w' => e = .returned (.tuple #[.int .i64 (aS a b), .bool (aF a b)]) ∧ w = w' := by
  have h : ∀ w, Calls Tryd.prog 71 #[.int .i64 a, .int .i64 b, .int .i64 1099511627776] w fun e w' => e = .returned (.tuple #[.int .i64 (aS a b), .bool (aF a b)]) ∧ w = w' := fun w => ref_add_any a b 1099511627776 w a0 a1 b0 b1 (by decide) (by decide)
  generalize aS a b = A at *
  generalize aF a b = F at *
  go_enter Tryd.func39, Tryd.ntmps39
  go_wp2_with (go_at_call 71; refine (h _).mono ?_; rintro e w' ⟨rfl, rfl⟩)
  go_ret2
  exact ⟨rfl, rfl⟩
theorem rpos_any (S : Int) (w : World) : Calls Tryd.prog 38 #[.int .i64 S] w fun e w' => e = .returned (.bool (posR S)) ∧ w = w' := by
  unfold posR
  go_enter Tryd.func38, Tryd.ntmps38
  go_wp2
  all_goals
    go_ret
    refine ⟨?_, rfl⟩
    congr 2
    first | (simp [*]; done) | (simp [*]; omega)
/-- Old blocks from B on, and blocks of strings, are as they were. -/
def Kept (W : World) (B : Nat) (w w' : World) : Prop := w.heap.size ≤ w'.heap.size ∧ ∀ g, B ≤ g → g < w.heap.size → (g < W.heap.size ∨ ∃ cur, w.heap[g]? = some (.cells cur 9)) → w'.heap[g]? = w.heap[g]?
section
variable {W : World} {B : Nat} {w w' w'' : World}
theorem Kept.refl (W : World) (B : Nat) (w : World) : Kept W B w w := ⟨Nat.le_refl _, fun _ _ _ _ => rfl⟩
theorem Kept.trans (h : Kept W B w w') (k : Kept W B w' w'') : Kept W B w w'' :=
  ⟨Nat.le_trans h.1 k.1, fun g hg hl ht => by
    have h1 := h.2 g hg hl ht
    refine (k.2 g hg (Nat.lt_of_lt_of_le hl h.1) ?_).trans h1
    rcases ht with h2 | ⟨cur, h2⟩
    · exact .inl h2
    · exact .inr ⟨cur, h1.trans h2⟩⟩
theorem Kept.below (h : Below w.heap.size w w') : Kept W B w w' := ⟨h.size, fun g _ hl _ => h.block g hl⟩
theorem row_block {w : World} {B : Nat} {t : TypeId} {m : Nat} {v : Value} {n : Nat} {c : List Value} (h : w.ownsRow B t m v n c) {g : Nat} (hg : v.ownBlock = some g) : B ≤ g ∧ ∃ cur, w.heap[g]? = some (.cells cur t) := by
  rcases h.2 with ⟨rfl, _⟩ | ⟨g1, cap, cur, rfl, h3, hc, _⟩
  · cases hg
  · injection hg with hg
    have hg : g1 = g := hg
    subst hg
    exact ⟨h3, cur, hc⟩
theorem Kept.own {us : List Value} {v : Value} (h : OwnV W.heap.size us v w) (hl : Lone v w w') : Kept W B w w' := by
  refine ⟨hl.1, fun g hg hlt ht => hl.2 g hlt (fun e => ?_)⟩
  obtain ⟨h1, cur, h2⟩ := row_block h.2 e
  rcases ht with h3 | ⟨cur', h3⟩
  · omega
  · rw [h2] at h3
    injection h3 with h3
    injection h3 with _ h4 _
    exact absurd h4 (by decide)
theorem Kept.store {us : List Value} {g n cap j : Nat} {u : Value} (h : OwnV W.heap.size us (.slice (some ⟨g, 0, none⟩) n cap) w) : Kept W B w (w.setCell ⟨g, j, none⟩ u) := by
  refine ⟨by simp, fun k hk hlt ht => Below.heap_setCell _ ⟨g, j, none⟩ _ _ (fun e => ?_)⟩
  have e : k = g := e
  subst e
  obtain ⟨h1, cur, h2⟩ := row_block h.2 (g := k) rfl
  rcases ht with h3 | ⟨cur', h3⟩
  · omega
  · rw [h2] at h3
    injection h3 with h3
    injection h3 with _ h4 _
    exact absurd h4 (by decide)
end
/-- A row that can be read, whatever turns that holds no strings. -/
def RowT (W : World) (B : Nat) (l : List ByteArray) (u : Value) (w : World) : Prop := u.oneCell' = true ∧ ∀ w', Kept W B w w' → RdS l u w'
section
variable {W : World} {B : Nat} {l : List ByteArray} {u : Value} {w w' : World}
theorem RowT.rd (h : RowT W B l u w) : RdS l u w := h.2 w (Kept.refl _ _ _)
theorem RowT.keep (h : RowT W B l u w) (hk : Kept W B w w') : RowT W B l u w' := ⟨h.1, fun w'' h2 => h.2 w'' (hk.trans h2)⟩
theorem RowT.nil_ (W : World) (B : Nat) (w : World) : RowT W B [] nilS w := ⟨rfl, fun w' _ => (OwnS.empty 0 w').rd⟩
theorem RowT.own {B' : Nat} (h : OwnS B' l u w) (hB : B ≤ B') : RowT W B l u w :=
  ⟨h.cell1, fun w' hk => (h.keep (fun g hg e => by
    obtain ⟨h1, cur, h2⟩ := row_block h e
    exact hk.2 g (by omega) hg (.inr ⟨cur, h2⟩))).rd⟩
theorem RowT.tl (h : RowT W B l u w) {k : Nat} (hk : k ≤ l.length) : RowT W B (l.drop k) (tlS u k) w := by
  refine ⟨?_, fun w' hw => (h.2 w' hw).tl k hk⟩
  obtain ⟨a, c, rfl⟩ := h.rd.shape
  rfl
end
/-- Levels in a row of the call's own, their rows readable. -/
def MixL (W : World) (B : Nat) (L : List (List ByteArray)) (us : List Value) (v : Value) (w : World) : Prop := OwnV W.heap.size us v w ∧ us.length = L.length ∧ ∀ j, j < L.length → RowT W B (L.getD j []) (us.getD j nilS) w
section
variable {W : World} {B : Nat} {L : List (List ByteArray)} {us : List Value} {v : Value} {w w' : World}
theorem MixL.rd (h : MixL W B L us v w) : RdL L v w := ⟨us, h.1.rd, h.2.1, fun j hj => (h.2.2 j hj).rd⟩
theorem MixL.below (h : MixL W B L us v w) (hb : Below w.heap.size w w') : MixL W B L us v w' := ⟨h.1.below hb, h.2.1, fun j hj => (h.2.2 j hj).keep (.below hb)⟩
theorem MixL.empty (W : World) (B : Nat) (w : World) : MixL W B [] [] (.slice none 0 0) w := ⟨OwnV.empty _ _, rfl, fun j hj => by cases hj⟩
/-- One level more. -/
theorem MixL.snoc {l : List ByteArray} {u v' : Value} (h : MixL W B L us v w) (hu : RowT W B l u w) (hv : OwnV W.heap.size (us ++ [u]) v' w') (hl : Lone v w w') : MixL W B (L ++ [l]) (us ++ [u]) v' w' := by
  have hk : Kept W B w w' := Kept.own h.1 hl
  refine ⟨hv, by simp [h.2.1], fun j hj => ?_⟩
  rw [List.length_append, List.length_singleton] at hj
  rw [getD_snoc, getD_snoc, h.2.1]
  by_cases hjl : j < L.length
  · rw [if_pos hjl, if_pos hjl]
    exact (h.2.2 j hjl).keep hk
  · rw [if_neg hjl, if_neg hjl, if_pos (by omega), if_pos (by omega)]
    exact hu.keep hk
/-- One level in place. -/
theorem MixL.set {l : List ByteArray} {u : Value} {g n cap j : Nat} (h : MixL W B L us (.slice (some ⟨g, 0, none⟩) n cap) w) (hj : j < L.length) (hu : RowT W B l u w) : MixL W B (L.set j l) (us.set j u) (.slice (some ⟨g, 0, none⟩) n cap) (w.setCell ⟨g, j, none⟩ u) := by
  have hk : Kept W B w (w.setCell ⟨g, j, none⟩ u) := Kept.store h.1
  have hlen := h.2.1
  refine ⟨h.1.put (by omega) j hu.1, by rw [List.length_set, List.length_set]; exact hlen, fun i hi => ?_⟩
  rw [List.length_set] at hi
  by_cases hij : j = i
  · subst hij
    rw [getD_set_eq hj, getD_set_eq (by omega)]
    exact hu.keep hk
  · rw [getD_set_ne hij, getD_set_ne hij]
    exact (h.2.2 i hi).keep hk
/-- The rows of levels that came in. -/
theorem RdU.rows (h : RdU B L us v W) (hb : Below W.heap.size W w) : us.length = L.length ∧ (∀ j, j < L.length → RowT W B (L.getD j []) (us.getD j nilS) w) := by
  have h0 := h W (Nat.le_refl _) (fun _ _ _ => rfl)
  refine ⟨h0.2.1, fun j hj => ⟨h0.1.1 _ (getD_mem (by rw [h0.2.1]; exact hj)), fun w' hk => ?_⟩⟩
  have hs := hb.size
  refine (h w' (Nat.le_trans hs hk.1) (fun g hg hl => ?_)).2.2 j hj
  rw [hk.2 g hg (by omega) (.inl hl)]
  exact hb.block g hl
theorem MixL.rb (h : MixL W B L us v w) (hB : B ≤ W.heap.size) : RdB B L v w := by
  refine ⟨us, fun w' h1 h2 => ?_⟩
  have hk : Kept W B w w' := ⟨h1, fun g hg hl _ => h2 g hg hl⟩
  refine ⟨(h.1.keep (fun g hg e => h2 g (by have := (h.1.lt e).1; omega) hg)).rd, h.2.1, fun j hj => (h.2.2 j hj).2 w' hk⟩
end
end Go.Proofs.YtdifilhfmbpalaaDoor
