/- The contract of sketchstorelaw10.spoil. -/
import Derived.Test.YtmmdnomfpfcjiaaFqN
import Derived.Test.YtmmdnomfpfcjiaaBase
import Derived.Test.YtmmdnomfpfcjiaaMeet
import Derived.Deep.RegionLaw
import Derived.Deep.Cut
namespace Go.Proofs.Ytmmdnomfpfcjiaa
open Go.RowKit
set_option linter.unusedVariables false
set_option linter.unusedSimpArgs false
theorem mask6 (n : Int) : bits .and .i64 n 63 = n % 64 := i64_mask 6 (by decide) n
theorem mask24 (n : Int) : bits .and .i64 n 16777215 = n % 16777216 := i64_mask 24 (by decide) n
/-- What a store of an entry's error leaves. -/
theorem OwnE.storedE {B : Nat} {L : List Ent} {g cap : Nat} {w : World} (h : OwnE B L (.slice (some ⟨g, 0, none⟩) L.length cap) w) {j : Nat} (hj : j < L.length) {c : Int} (hx : -9223372036854775808 ≤ c ∧ c ≤ 9223372036854775807) :
    OwnE B (L.set j ⟨(L.getD j Ent.z).k, (L.getD j Ent.z).c, c⟩) (.slice (some ⟨g, 0, none⟩) L.length cap) (w.setCell ⟨g, j * 3 + 2, none⟩ (.int .i64 c)) := by
  obtain ⟨hy, ho⟩ := h
  refine ⟨hy.set j ⟨(hy.at_ j).1, (hy.at_ j).2.1, hx⟩, ?_⟩
  have h2 := (World.ownsRow.stored ho (j * 3 + 2) (.int .i64 c)).1
  rw [List.length_set, cellsE_set]
  obtain ⟨c0, c1, c2⟩ := cellsE_at hj
  have e : (((cellsE L).set (j * 3) (.string (L.getD j Ent.z).k)).set (j * 3 + 1) (.int .i64 (L.getD j Ent.z).c)).set (j * 3 + 2) (.int .i64 c) = (cellsE L).set (j * 3 + 2) (.int .i64 c) := by
    apply List.ext_getElem?
    intro i
    simp only [List.getElem?_set, List.length_set]
    have l0 : j * 3 < L.length * 3 := by omega
    have l1 : j * 3 + 1 < L.length * 3 := by omega
    have l2 : j * 3 + 2 < L.length * 3 := by omega
    by_cases h0 : i = j * 3
    · subst h0
      have q := (List.getElem?_eq_some_iff.1 c0).2
      simpa [cellsE_len, l0] using q.symm
    · by_cases h1 : i = j * 3 + 1
      · subst h1
        have q := (List.getElem?_eq_some_iff.1 c1).2
        simpa [cellsE_len, l1] using q.symm
      · by_cases h2 : i = j * 3 + 2
        · subst h2
          simp [cellsE_len, l2]
        · simp [Ne.symm h0, Ne.symm h1, Ne.symm h2]
  rw [e]
  exact h2
/-- What a store of an entry's key leaves. -/
theorem OwnE.storedK {B : Nat} {L : List Ent} {g cap : Nat} {w : World} (h : OwnE B L (.slice (some ⟨g, 0, none⟩) L.length cap) w) {j : Nat} (hj : j < L.length) {c : ByteArray} (hx : c.size ≤ maxLen) :
    OwnE B (L.set j ⟨c, (L.getD j Ent.z).c, (L.getD j Ent.z).e⟩) (.slice (some ⟨g, 0, none⟩) L.length cap) (w.setCell ⟨g, j * 3, none⟩ (.string c)) := by
  obtain ⟨hy, ho⟩ := h
  refine ⟨hy.set j ⟨hx, (hy.at_ j).2.1, (hy.at_ j).2.2⟩, ?_⟩
  have h2 := (World.ownsRow.stored ho (j * 3) (.string c)).1
  rw [List.length_set, cellsE_set]
  obtain ⟨c0, c1, c2⟩ := cellsE_at hj
  have e : (((cellsE L).set (j * 3) (.string c)).set (j * 3 + 1) (.int .i64 (L.getD j Ent.z).c)).set (j * 3 + 2) (.int .i64 (L.getD j Ent.z).e) = (cellsE L).set (j * 3) (.string c) := by
    apply List.ext_getElem?
    intro i
    simp only [List.getElem?_set, List.length_set]
    have l0 : j * 3 < L.length * 3 := by omega
    have l1 : j * 3 + 1 < L.length * 3 := by omega
    have l2 : j * 3 + 2 < L.length * 3 := by omega
    by_cases h0 : i = j * 3
    · subst h0
      simp [cellsE_len, l0]
    · by_cases h1 : i = j * 3 + 1
      · subst h1
        have q := (List.getElem?_eq_some_iff.1 c1).2
        simpa [cellsE_len, l1] using q.symm
      · by_cases h2 : i = j * 3 + 2
        · subst h2
          have q := (List.getElem?_eq_some_iff.1 c2).2
          simpa [cellsE_len, l2] using q.symm
        · simp [Ne.symm h0, Ne.symm h1, Ne.symm h2]
  rw [e]
  exact h2
theorem OwnE.oneAt {x : Ent} (hx : x.ok) (w : World) {k : Nat} (hk : w.heap.size = k) : OwnE k [x] (.slice (some ⟨k, 0, none⟩) 1 1) (w.alloc (.cells #[.string x.k, .int .i64 x.c, .int .i64 x.e] 49)) := by
  subst hk
  exact OwnE.one hx w
/-- The struct to be spoilt, the result's struct, the entries. -/
def Sp (W : World) (S T K : Int) (s : Bool) (L : List Ent) (u : Value) (w : World) : Prop :=
  FqS W.heap.size S T K u s w ∧ FqS (W.heap.size + 1) 0 0 0 (.slice none 0 0) false w ∧ OwnE (W.heap.size + 2) L u w ∧ Below W.heap.size W w
theorem Sp.put {W : World} {S T K : Int} {s : Bool} {L L' : List Ent} {u : Value} {w : World} (h : Sp W S T K s L u w) {g : Nat} (hg : W.heap.size + 2 ≤ g) (o : Nat) (v : Value) (hO : OwnE (W.heap.size + 2) L' u (w.setCell ⟨g, o, none⟩ v)) : Sp W S T K s L' u (w.setCell ⟨g, o, none⟩ v) :=
  ⟨h.1.keep (Below.heap_setCell _ ⟨g, o, none⟩ _ _ (show W.heap.size ≠ g by omega)), h.2.1.keep (Below.heap_setCell _ ⟨g, o, none⟩ _ _ (show W.heap.size + 1 ≠ g by omega)), hO, bset h.2.2.2 _ _ _ (by omega)⟩
theorem Sp.go {W : World} {S T K : Int} {s : Bool} {L : List Ent} {u : Value} {w w' : World} (h : Sp W S T K s L u w) (hb : Below w.heap.size w w') : Sp W S T K s L u w' :=
  ⟨h.1.below hb h.1.lt, h.2.1.below hb h.2.1.lt, h.2.2.1.below hb, bgo h.2.2.2 hb⟩
theorem Sp.drew {W : World} {S T K : Int} {s : Bool} {L : List Ent} {u : Value} {w : World} (h : Sp W S T K s L u w) : Sp W S T K s L u w.drew := h.go (Below.refl _ _).drew
/-- The entries are laid into the struct. -/
theorem Sp.lay {W : World} {S T K : Int} {s : Bool} {L : List Ent} {u : Value} {w : World} (h : FqS W.heap.size S T K u s w) (h1 : FqS (W.heap.size + 1) 0 0 0 (.slice none 0 0) false w) (a : Option Addr) (n c : Nat) (h2 : OwnE (W.heap.size + 2) L (.slice a n c) w) (h3 : Below W.heap.size W w) : Sp W S T K s L (.slice a n c) (w.setCell ⟨W.heap.size, 3, none⟩ (.slice a n c)) := by
  refine ⟨?_, h1.keep (Below.heap_setCell _ ⟨W.heap.size, 3, none⟩ _ _ (Nat.succ_ne_self _)), h2.keep (by omega) _ _, bset h3 _ _ _ (Nat.le_refl _)⟩
  obtain ⟨⟨a0, a1, a2, a3, a4⟩, f0, f1, f2, f3, f4⟩ := h
  exact ⟨⟨by go_simp, by go_simp, by go_simp, by go_simp, by go_simp⟩, by go_simp, by go_simp, by go_simp, by go_simp, by go_simp⟩
theorem Sp.setS {W : World} {S T K : Int} {s : Bool} {L : List Ent} {u : Value} {w : World} (h : Sp W S T K s L u w) (c : Int) : Sp W c T K s L u (w.setCell ⟨W.heap.size, 0, none⟩ (.int .i64 c)) := by
  obtain ⟨⟨⟨a0, a1, a2, a3, a4⟩, f0, f1, f2, f3, f4⟩, h2, h3, h4⟩ := h
  exact ⟨⟨⟨by go_simp, by go_simp, by go_simp, by go_simp, by go_simp⟩, by go_simp, by go_simp, by go_simp, by go_simp, by go_simp⟩, h2.keep (Below.heap_setCell _ ⟨W.heap.size, 0, none⟩ _ _ (Nat.succ_ne_self _)), h3.keep (by omega) _ _, bset h4 _ _ _ (Nat.le_refl _)⟩
theorem Sp.setT {W : World} {S T K : Int} {s : Bool} {L : List Ent} {u : Value} {w : World} (h : Sp W S T K s L u w) (c : Int) : Sp W S c K s L u (w.setCell ⟨W.heap.size, 1, none⟩ (.int .i64 c)) := by
  obtain ⟨⟨⟨a0, a1, a2, a3, a4⟩, f0, f1, f2, f3, f4⟩, h2, h3, h4⟩ := h
  exact ⟨⟨⟨by go_simp, by go_simp, by go_simp, by go_simp, by go_simp⟩, by go_simp, by go_simp, by go_simp, by go_simp, by go_simp⟩, h2.keep (Below.heap_setCell _ ⟨W.heap.size, 1, none⟩ _ _ (Nat.succ_ne_self _)), h3.keep (by omega) _ _, bset h4 _ _ _ (Nat.le_refl _)⟩
theorem Sp.setK {W : World} {S T K : Int} {s : Bool} {L : List Ent} {u : Value} {w : World} (h : Sp W S T K s L u w) (c : Int) : Sp W S T c s L u (w.setCell ⟨W.heap.size, 2, none⟩ (.int .i64 c)) := by
  obtain ⟨⟨⟨a0, a1, a2, a3, a4⟩, f0, f1, f2, f3, f4⟩, h2, h3, h4⟩ := h
  exact ⟨⟨⟨by go_simp, by go_simp, by go_simp, by go_simp, by go_simp⟩, by go_simp, by go_simp, by go_simp, by go_simp, by go_simp⟩, h2.keep (Below.heap_setCell _ ⟨W.heap.size, 2, none⟩ _ _ (Nat.succ_ne_self _)), h3.keep (by omega) _ _, bset h4 _ _ _ (Nat.le_refl _)⟩
theorem Sp.storeC {W : World} {S T K : Int} {s : Bool} {L : List Ent} {g m cap : Nat} {w : World} (h : Sp W S T K s L (.slice (some ⟨g, 0, none⟩) m cap) w) (hm : L.length = m) (hg : W.heap.size + 2 ≤ g) {j : Nat} (hj : j < m) {c : Int} (hc : -9223372036854775808 ≤ c ∧ c ≤ 9223372036854775807) :
    Sp W S T K s (L.set j ⟨(L.getD j Ent.z).k, c, (L.getD j Ent.z).e⟩) (.slice (some ⟨g, 0, none⟩) m cap) (w.setCell ⟨g, j * 3 + 1, none⟩ (.int .i64 c)) := by
  subst hm
  exact h.put hg _ _ (h.2.2.1.storedC hj hc)
theorem Sp.storeE {W : World} {S T K : Int} {s : Bool} {L : List Ent} {g m cap : Nat} {w : World} (h : Sp W S T K s L (.slice (some ⟨g, 0, none⟩) m cap) w) (hm : L.length = m) (hg : W.heap.size + 2 ≤ g) {j : Nat} (hj : j < m) {c : Int} (hc : -9223372036854775808 ≤ c ∧ c ≤ 9223372036854775807) :
    Sp W S T K s (L.set j ⟨(L.getD j Ent.z).k, (L.getD j Ent.z).c, c⟩) (.slice (some ⟨g, 0, none⟩) m cap) (w.setCell ⟨g, j * 3 + 2, none⟩ (.int .i64 c)) := by
  subst hm
  exact h.put hg _ _ (h.2.2.1.storedE hj hc)
theorem Sp.storeK {W : World} {S T K : Int} {s : Bool} {L : List Ent} {g m cap : Nat} {w : World} (h : Sp W S T K s L (.slice (some ⟨g, 0, none⟩) m cap) w) (hm : L.length = m) (hg : W.heap.size + 2 ≤ g) {j : Nat} (hj : j < m) {c : ByteArray} (hc : c.size ≤ maxLen) :
    Sp W S T K s (L.set j ⟨c, (L.getD j Ent.z).c, (L.getD j Ent.z).e⟩) (.slice (some ⟨g, 0, none⟩) m cap) (w.setCell ⟨g, j * 3, none⟩ (.string c)) := by
  subst hm
  exact h.put hg _ _ (h.2.2.1.storedK hj hc)
/-- The cells of an entry, and that they may be written. -/
theorem Sp.ent {W : World} {S T K : Int} {s : Bool} {L : List Ent} {g m cap : Nat} {w : World} (h : Sp W S T K s L (.slice (some ⟨g, 0, none⟩) m cap) w) (hm : L.length = m) {j : Nat} (hj : j < m) :
    At3 (L.getD j Ent.z) g (j * 3) w ∧ w.frozen? ⟨g, j * 3, none⟩ = false ∧ w.frozen? ⟨g, j * 3 + 1, none⟩ = false ∧ w.frozen? ⟨g, j * 3 + 2, none⟩ = false := by
  subst hm
  exact ⟨h.2.2.1.cellsAt hj, h.2.2.1.frozen _, h.2.2.1.frozen _, h.2.2.1.frozen _⟩
/-- Some summary that can be read. -/
def AnyQ (w : World) (e : Ending) (w' : World) : Prop := ∃ c u, e = .returned u ∧ WfQ c ∧ RdQ c u w' ∧ c.L.length ≤ 5 ∧ Below w.heap.size w w'
/-- The result is written. -/
theorem AnyQ.done {W w w' : World} {S T K : Int} {s : Bool} {L : List Ent} {a : Option Addr} {n cap : Nat} (hw : WfQ ⟨S, T, K, L, s⟩) (hl : L.length ≤ 5) (hO : OwnE (W.heap.size + 2) L (.slice a n cap) w) (hB : Below W.heap.size W w) (hw' : w' = ((((w.setCell ⟨W.heap.size + 1, 0, none⟩ (.int .i64 S)).setCell ⟨W.heap.size + 1, 1, none⟩ (.int .i64 T)).setCell ⟨W.heap.size + 1, 2, none⟩ (.int .i64 K)).setCell ⟨W.heap.size + 1, 3, none⟩ (.slice a n cap)).setCell ⟨W.heap.size + 1, 4, none⟩ (.bool s)) :
    AnyQ W (.returned (.agg #[.int .i64 S, .int .i64 T, .int .i64 K, .slice a n cap, .bool s])) w' := by
  subst hw'
  have l1 : W.heap.size + 1 < W.heap.size + 2 := by omega
  have l2 : W.heap.size ≤ W.heap.size + 1 := by omega
  exact ⟨⟨S, T, K, L, s⟩, _, rfl, hw, ⟨_, _, _, rfl, (((((hO.keep l1 _ _).keep l1 _ _).keep l1 _ _).keep l1 _ _).keep l1 _ _).rd⟩, hl, bset (bset (bset (bset (bset hB _ _ _ l2) _ _ _ l2) _ _ _ l2) _ _ _ l2) _ _ _ l2⟩
set_option maxRecDepth 100000 in
set_option maxHeartbeats 4000000 in
theorem spoilQ_any (c : FQ) (v : Value) (n : Int) (W : World) (hc : WfQ c) (hv : RdQ c v W) (hq : c.L.length ≤ 4) (n0 : -9223372036854775808 ≤ n) (n1 : n ≤ 9223372036854775807) :
    Calls Try.prog 8 #[v, .int .i64 n] W (AnyQ W) := by
  obtain ⟨S, T, K, L, s⟩ := c
  obtain ⟨a, ln, cap, rfl, hR⟩ := hv
  obtain ⟨a', cap', he⟩ := hR.shape
  simp only [Value.slice.injEq] at he
  obtain ⟨rfl, rfl, rfl⟩ := he
  dsimp only at hR hq hc ⊢
  have HC := Lib.hid hc
  obtain ⟨m, hm⟩ : ∃ m, L.length = m := ⟨_, rfl⟩
  rw [hm] at hR hq ⊢
  have HM := Lib.hid hm
  clear hm
  have m0 := mask4 n
  have m1 := mask24 (n / 16)
  have e0 : 0 ≤ n % 16 ∧ n % 16 ≤ 15 := by omega
  have e1 : 0 ≤ n / 16 % 16777216 ∧ n / 16 % 16777216 ≤ 16777215 := by omega
  generalize n % 16 = r at *
  generalize n / 16 % 16777216 = k at *
  have m2 := mask3 k
  have m3 := mask6 k
  have m4 := mask2 k
  have m5 := mask2 (k / 4)
  have m6 := mask3 (k / 8)
  have m7 := mask4 (k / 8)
  have e2 : 0 ≤ k % 8 ∧ k % 8 ≤ 7 := by omega
  have e3 : 0 ≤ k % 64 ∧ k % 64 ≤ 63 := by omega
  have e4 : 0 ≤ k % 4 ∧ k % 4 ≤ 3 := by omega
  have e5 : 0 ≤ k / 4 % 4 ∧ k / 4 % 4 ≤ 3 := by omega
  have e6 : 0 ≤ k / 8 % 8 ∧ k / 8 % 8 ≤ 7 := by omega
  have e7 : 0 ≤ k / 8 % 16 ∧ k / 8 % 16 ≤ 15 := by omega
  have e8 : 0 ≤ k / 8 % 5 ∧ k / 8 % 5 ≤ 4 := by omega
  obtain ⟨e00, e01⟩ := e0
  obtain ⟨e10, e11⟩ := e1
  obtain ⟨e20, e21⟩ := e2
  obtain ⟨e30, e31⟩ := e3
  obtain ⟨e40, e41⟩ := e4
  obtain ⟨e50, e51⟩ := e5
  obtain ⟨e60, e61⟩ := e6
  obtain ⟨e70, e71⟩ := e7
  obtain ⟨e80, e81⟩ := e8
  generalize k % 64 = k64 at *
  generalize k / 4 % 4 = k44 at *
  generalize k / 8 % 8 = k88 at *
  generalize k / 8 % 16 = k816 at *
  have HR := Lib.hid (hR.below (b2 (.cells #[.int .i64 S, .int .i64 T, .int .i64 K, .slice a m cap, .bool s] 25) (.cells #[.int .i64 0, .int .i64 0, .int .i64 0, .slice none 0 0, .bool false] 25)))
  have C0 := Lib.hid (show FqS W.heap.size S T K (.slice a m cap) s ((W.alloc (.cells #[.int .i64 S, .int .i64 T, .int .i64 K, .slice a m cap, .bool s] 25)).alloc (.cells #[.int .i64 0, .int .i64 0, .int .i64 0, .slice none 0 0, .bool false] 25)) from (FqS.new S T K _ s _ W).below (b1 _) (by simp))
  have Z0 := Lib.hid (show FqS (W.heap.size + 1) 0 0 0 (.slice none 0 0) false ((W.alloc (.cells #[.int .i64 S, .int .i64 T, .int .i64 K, .slice a m cap, .bool s] 25)).alloc (.cells #[.int .i64 0, .int .i64 0, .int .i64 0, .slice none 0 0, .bool false] 25)) from by
    have := FqS.new 0 0 0 (.slice none 0 0) false 25 (W.alloc (.cells #[.int .i64 S, .int .i64 T, .int .i64 K, .slice a m cap, .bool s] 25))
    rwa [show (W.alloc (.cells #[.int .i64 S, .int .i64 T, .int .i64 K, .slice a m cap, .bool s] 25)).heap.size = W.heap.size + 1 by simp] at this)
  have B0 := Lib.hid (b2 (a := W) (.cells #[.int .i64 S, .int .i64 T, .int .i64 K, .slice a m cap, .bool s] 25) (.cells #[.int .i64 0, .int .i64 0, .int .i64 0, .slice none 0 0, .bool false] 25))
  clear hR hc
  have hr9 : r = 0 ∨ r = 1 ∨ r = 2 ∨ r = 3 ∨ (r = 4 ∨ r = 5) ∨ r = 6 ∨ ((r == 0) = false ∧ (r == 1) = false ∧ (r == 2) = false ∧ (r == 3) = false ∧ (r == 4) = false ∧ (r == 5) = false ∧ (r == 6) = false) := by
    simp only [beq_eq_false_iff_ne, ne_eq]
    omega
  have hk4 : k % 4 = 0 ∨ k % 4 = 1 ∨ k % 4 = 2 ∨ k % 4 = 3 := by omega
  by_cases hp : 0 < m
  · skip
    have hL0 : (m : Int) ≠ 0 := by omega
    obtain ⟨j, hj⟩ : ∃ j : Nat, k % 8 % (m : Int) = (j : Int) := ⟨(k % 8 % (m : Int)).toNat, by have := Int.emod_nonneg (k % 8) hL0; omega⟩
    have hjl : j < m := by have := Int.emod_lt_of_pos (k % 8) (show (0 : Int) < m by omega); omega
    have hjt : (k % 8).tmod (m : Int) = (j : Int) := by rw [Int.tmod_eq_emod_of_nonneg e20, hj]
    have HJ := Lib.hid hjl
    have HQ := Lib.hid hq
    have hm0 : ¬ m = 0 := by omega
    have hmI : (m : Int) ≤ 1000 := by omega
    have hz0 : ((m : Int) == 0) = false := beq_eq_false_iff_ne.2 hL0
    clear hL0 hj hjl
    go_enter Try.func8, Try.ntmps8
    go_upto_region 6 with ((at_builtin; refine wp_appE rfl _ _ _ rfl (W.heap.size + 2) [] L _ _ rfl rfl (OwnE.empty _ _) HR.out.src (by simp) (by have := HM.out; simp <;> omega) ?_; intro u w2 ho2 hb2; rw [List.nil_append] at ho2; have B2 := Lib.hid (B0.out.trans (hb2.mono (by omega))); have C2 := Lib.hid (C0.out.below hb2 (by omega)); have Z2 := Lib.hid (Z0.out.below hb2 (by omega)); obtain ⟨⟨p0, p1, p2, p3, p4⟩, f0, f1, f2, f3, f4⟩ := C2.out; obtain ⟨⟨q0, q1, q2, q3, q4⟩, g0, g1, g2, g3, g4⟩ := Z2.out; have hs1 : W.heap.size < w2.heap.size := C2.out.lt; have hs2 : W.heap.size + 1 < w2.heap.size := Z2.out.lt; have O2 := Lib.hid ho2; obtain ⟨a2, c2, hv2⟩ := ho2.rd.shape; rw [HM.out] at hv2; subst hv2; clear ho2 hb2 HR))
    obtain ⟨g, rfl, hgB, hgs, -, -, -⟩ := O2.out.block (by have := HM.out; omega)
    have H3 := Lib.hid (Sp.lay C2.out Z2.out (some ⟨g, 0, none⟩) m c2 O2.out B2.out)
    clear p0 p1 p2 p3 p4 f0 f1 f2 f3 f4 q0 q1 q2 q3 q4 g0 g1 g2 g3 g4 hs1 hs2 C2 Z2 O2 B2 C0 Z0 B0 hgs
    generalize w2.setCell ⟨W.heap.size, 3, none⟩ (.slice (some ⟨g, 0, none⟩) m c2) = w3 at *
    have HGB := Lib.hid hgB
    obtain ⟨⟨⟨p0, p1, p2, p3, p4⟩, f0, f1, f2, f3, f4⟩, ⟨⟨q0, q1, q2, q3, q4⟩, g0, g1, g2, g3, g4⟩, -, -⟩ := H3.out
    have hs1 : W.heap.size < w3.heap.size := H3.out.1.lt
    have hs2 : W.heap.size + 1 < w3.heap.size := H3.out.2.1.lt
    rcases hr9 with rfl | rfl | rfl | rfl | hr9 | rfl | ⟨r0, r1, r2, r3, r4, r5, r6⟩
    · go_upto_region 22 with (fail)
      have H4 := Lib.hid (H3.out.setS (k64 - 2))
      clear p0 p1 p2 p3 p4 f0 f1 f2 f3 f4 q0 q1 q2 q3 q4 g0 g1 g2 g3 g4 hs1 hs2
      generalize w3.setCell ⟨W.heap.size, 0, none⟩ (.int .i64 (k64 - 2)) = w4 at *
      obtain ⟨⟨⟨p0, p1, p2, p3, p4⟩, f0, f1, f2, f3, f4⟩, ⟨⟨q0, q1, q2, q3, q4⟩, g0, g1, g2, g3, g4⟩, -, -⟩ := H4.out
      have hs1 : W.heap.size < w4.heap.size := H4.out.1.lt
      have hs2 : W.heap.size + 1 < w4.heap.size := H4.out.2.1.lt
      go_wp2
      refine bodyPost_ret (v := .agg #[.int .i64 (k64 - 2), .int .i64 T, .int .i64 K, .slice (some ⟨g, 0, none⟩) m c2, .bool s]) (by simp [results, Try.results8, go_sem, *]) rfl ?_
      exact AnyQ.done (L := L) ⟨⟨by dsimp only; omega, by dsimp only; omega⟩, HC.out.2⟩ (by have := HQ.out; have := HM.out; omega) H4.out.2.2.1 H4.out.2.2.2 rfl
    · rcases hk4 with h4 | h4 | h4 | h4 <;> rw [h4] at m4 <;> clear h4 e40 e41
      · go_upto_region 22 with (fail)
        have H4 := Lib.hid ((H3.out.setT (-1)).go (b1 (.cells #[.int .i64 (-1), .int .i64 1099511627776, .int .i64 1099511627777, .int .i64 1099511627775] 3)))
        clear p0 p1 p2 p3 p4 f0 f1 f2 f3 f4 q0 q1 q2 q3 q4 g0 g1 g2 g3 g4 hs1 hs2
        generalize (w3.setCell ⟨W.heap.size, 1, none⟩ (.int .i64 (-1))).alloc (.cells #[.int .i64 (-1), .int .i64 1099511627776, .int .i64 1099511627777, .int .i64 1099511627775] 3) = w4 at *
        obtain ⟨⟨⟨p0, p1, p2, p3, p4⟩, f0, f1, f2, f3, f4⟩, ⟨⟨q0, q1, q2, q3, q4⟩, g0, g1, g2, g3, g4⟩, -, -⟩ := H4.out
        have hs1 : W.heap.size < w4.heap.size := H4.out.1.lt
        have hs2 : W.heap.size + 1 < w4.heap.size := H4.out.2.1.lt
        go_wp2
        refine bodyPost_ret (v := .agg #[.int .i64 S, .int .i64 (-1), .int .i64 K, .slice (some ⟨g, 0, none⟩) m c2, .bool s]) (by simp [results, Try.results8, go_sem, *]) rfl ?_
        exact AnyQ.done (L := L) ⟨HC.out.1, ⟨by dsimp only; omega, by dsimp only; omega⟩, HC.out.2.2⟩ (by have := HQ.out; have := HM.out; omega) H4.out.2.2.1 H4.out.2.2.2 rfl
      · go_upto_region 22 with (fail)
        have H4 := Lib.hid ((H3.out.setT 1099511627776).go (b1 (.cells #[.int .i64 (-1), .int .i64 1099511627776, .int .i64 1099511627777, .int .i64 1099511627775] 3)))
        clear p0 p1 p2 p3 p4 f0 f1 f2 f3 f4 q0 q1 q2 q3 q4 g0 g1 g2 g3 g4 hs1 hs2
        generalize (w3.setCell ⟨W.heap.size, 1, none⟩ (.int .i64 1099511627776)).alloc (.cells #[.int .i64 (-1), .int .i64 1099511627776, .int .i64 1099511627777, .int .i64 1099511627775] 3) = w4 at *
        obtain ⟨⟨⟨p0, p1, p2, p3, p4⟩, f0, f1, f2, f3, f4⟩, ⟨⟨q0, q1, q2, q3, q4⟩, g0, g1, g2, g3, g4⟩, -, -⟩ := H4.out
        have hs1 : W.heap.size < w4.heap.size := H4.out.1.lt
        have hs2 : W.heap.size + 1 < w4.heap.size := H4.out.2.1.lt
        go_wp2
        refine bodyPost_ret (v := .agg #[.int .i64 S, .int .i64 1099511627776, .int .i64 K, .slice (some ⟨g, 0, none⟩) m c2, .bool s]) (by simp [results, Try.results8, go_sem, *]) rfl ?_
        exact AnyQ.done (L := L) ⟨HC.out.1, ⟨by dsimp only; omega, by dsimp only; omega⟩, HC.out.2.2⟩ (by have := HQ.out; have := HM.out; omega) H4.out.2.2.1 H4.out.2.2.2 rfl
      · go_upto_region 22 with (fail)
        have H4 := Lib.hid ((H3.out.setT 1099511627777).go (b1 (.cells #[.int .i64 (-1), .int .i64 1099511627776, .int .i64 1099511627777, .int .i64 1099511627775] 3)))
        clear p0 p1 p2 p3 p4 f0 f1 f2 f3 f4 q0 q1 q2 q3 q4 g0 g1 g2 g3 g4 hs1 hs2
        generalize (w3.setCell ⟨W.heap.size, 1, none⟩ (.int .i64 1099511627777)).alloc (.cells #[.int .i64 (-1), .int .i64 1099511627776, .int .i64 1099511627777, .int .i64 1099511627775] 3) = w4 at *
        obtain ⟨⟨⟨p0, p1, p2, p3, p4⟩, f0, f1, f2, f3, f4⟩, ⟨⟨q0, q1, q2, q3, q4⟩, g0, g1, g2, g3, g4⟩, -, -⟩ := H4.out
        have hs1 : W.heap.size < w4.heap.size := H4.out.1.lt
        have hs2 : W.heap.size + 1 < w4.heap.size := H4.out.2.1.lt
        go_wp2
        refine bodyPost_ret (v := .agg #[.int .i64 S, .int .i64 1099511627777, .int .i64 K, .slice (some ⟨g, 0, none⟩) m c2, .bool s]) (by simp [results, Try.results8, go_sem, *]) rfl ?_
        exact AnyQ.done (L := L) ⟨HC.out.1, ⟨by dsimp only; omega, by dsimp only; omega⟩, HC.out.2.2⟩ (by have := HQ.out; have := HM.out; omega) H4.out.2.2.1 H4.out.2.2.2 rfl
      · go_upto_region 22 with (fail)
        have H4 := Lib.hid ((H3.out.setT 1099511627775).go (b1 (.cells #[.int .i64 (-1), .int .i64 1099511627776, .int .i64 1099511627777, .int .i64 1099511627775] 3)))
        clear p0 p1 p2 p3 p4 f0 f1 f2 f3 f4 q0 q1 q2 q3 q4 g0 g1 g2 g3 g4 hs1 hs2
        generalize (w3.setCell ⟨W.heap.size, 1, none⟩ (.int .i64 1099511627775)).alloc (.cells #[.int .i64 (-1), .int .i64 1099511627776, .int .i64 1099511627777, .int .i64 1099511627775] 3) = w4 at *
        obtain ⟨⟨⟨p0, p1, p2, p3, p4⟩, f0, f1, f2, f3, f4⟩, ⟨⟨q0, q1, q2, q3, q4⟩, g0, g1, g2, g3, g4⟩, -, -⟩ := H4.out
        have hs1 : W.heap.size < w4.heap.size := H4.out.1.lt
        have hs2 : W.heap.size + 1 < w4.heap.size := H4.out.2.1.lt
        go_wp2
        refine bodyPost_ret (v := .agg #[.int .i64 S, .int .i64 1099511627775, .int .i64 K, .slice (some ⟨g, 0, none⟩) m c2, .bool s]) (by simp [results, Try.results8, go_sem, *]) rfl ?_
        exact AnyQ.done (L := L) ⟨HC.out.1, ⟨by dsimp only; omega, by dsimp only; omega⟩, HC.out.2.2⟩ (by have := HQ.out; have := HM.out; omega) H4.out.2.2.1 H4.out.2.2.2 rfl
    · rcases hk4 with h4 | h4 | h4 | h4 <;> rw [h4] at m4 <;> clear h4 e40 e41
      · go_upto_region 22 with (fail)
        have H4 := Lib.hid ((H3.out.setK (-1)).go (b1 (.cells #[.int .i64 (-1), .int .i64 1099511627776, .int .i64 1099511627777, .int .i64 1099511627775] 3)))
        clear p0 p1 p2 p3 p4 f0 f1 f2 f3 f4 q0 q1 q2 q3 q4 g0 g1 g2 g3 g4 hs1 hs2
        generalize (w3.setCell ⟨W.heap.size, 2, none⟩ (.int .i64 (-1))).alloc (.cells #[.int .i64 (-1), .int .i64 1099511627776, .int .i64 1099511627777, .int .i64 1099511627775] 3) = w4 at *
        obtain ⟨⟨⟨p0, p1, p2, p3, p4⟩, f0, f1, f2, f3, f4⟩, ⟨⟨q0, q1, q2, q3, q4⟩, g0, g1, g2, g3, g4⟩, -, -⟩ := H4.out
        have hs1 : W.heap.size < w4.heap.size := H4.out.1.lt
        have hs2 : W.heap.size + 1 < w4.heap.size := H4.out.2.1.lt
        go_wp2
        refine bodyPost_ret (v := .agg #[.int .i64 S, .int .i64 T, .int .i64 (-1), .slice (some ⟨g, 0, none⟩) m c2, .bool s]) (by simp [results, Try.results8, go_sem, *]) rfl ?_
        exact AnyQ.done (L := L) ⟨HC.out.1, HC.out.2.1, by dsimp only; omega, by dsimp only; omega⟩ (by have := HQ.out; have := HM.out; omega) H4.out.2.2.1 H4.out.2.2.2 rfl
      · go_upto_region 22 with (fail)
        have H4 := Lib.hid ((H3.out.setK 1099511627776).go (b1 (.cells #[.int .i64 (-1), .int .i64 1099511627776, .int .i64 1099511627777, .int .i64 1099511627775] 3)))
        clear p0 p1 p2 p3 p4 f0 f1 f2 f3 f4 q0 q1 q2 q3 q4 g0 g1 g2 g3 g4 hs1 hs2
        generalize (w3.setCell ⟨W.heap.size, 2, none⟩ (.int .i64 1099511627776)).alloc (.cells #[.int .i64 (-1), .int .i64 1099511627776, .int .i64 1099511627777, .int .i64 1099511627775] 3) = w4 at *
        obtain ⟨⟨⟨p0, p1, p2, p3, p4⟩, f0, f1, f2, f3, f4⟩, ⟨⟨q0, q1, q2, q3, q4⟩, g0, g1, g2, g3, g4⟩, -, -⟩ := H4.out
        have hs1 : W.heap.size < w4.heap.size := H4.out.1.lt
        have hs2 : W.heap.size + 1 < w4.heap.size := H4.out.2.1.lt
        go_wp2
        refine bodyPost_ret (v := .agg #[.int .i64 S, .int .i64 T, .int .i64 1099511627776, .slice (some ⟨g, 0, none⟩) m c2, .bool s]) (by simp [results, Try.results8, go_sem, *]) rfl ?_
        exact AnyQ.done (L := L) ⟨HC.out.1, HC.out.2.1, by dsimp only; omega, by dsimp only; omega⟩ (by have := HQ.out; have := HM.out; omega) H4.out.2.2.1 H4.out.2.2.2 rfl
      · go_upto_region 22 with (fail)
        have H4 := Lib.hid ((H3.out.setK 1099511627777).go (b1 (.cells #[.int .i64 (-1), .int .i64 1099511627776, .int .i64 1099511627777, .int .i64 1099511627775] 3)))
        clear p0 p1 p2 p3 p4 f0 f1 f2 f3 f4 q0 q1 q2 q3 q4 g0 g1 g2 g3 g4 hs1 hs2
        generalize (w3.setCell ⟨W.heap.size, 2, none⟩ (.int .i64 1099511627777)).alloc (.cells #[.int .i64 (-1), .int .i64 1099511627776, .int .i64 1099511627777, .int .i64 1099511627775] 3) = w4 at *
        obtain ⟨⟨⟨p0, p1, p2, p3, p4⟩, f0, f1, f2, f3, f4⟩, ⟨⟨q0, q1, q2, q3, q4⟩, g0, g1, g2, g3, g4⟩, -, -⟩ := H4.out
        have hs1 : W.heap.size < w4.heap.size := H4.out.1.lt
        have hs2 : W.heap.size + 1 < w4.heap.size := H4.out.2.1.lt
        go_wp2
        refine bodyPost_ret (v := .agg #[.int .i64 S, .int .i64 T, .int .i64 1099511627777, .slice (some ⟨g, 0, none⟩) m c2, .bool s]) (by simp [results, Try.results8, go_sem, *]) rfl ?_
        exact AnyQ.done (L := L) ⟨HC.out.1, HC.out.2.1, by dsimp only; omega, by dsimp only; omega⟩ (by have := HQ.out; have := HM.out; omega) H4.out.2.2.1 H4.out.2.2.2 rfl
      · go_upto_region 22 with (fail)
        have H4 := Lib.hid ((H3.out.setK 1099511627775).go (b1 (.cells #[.int .i64 (-1), .int .i64 1099511627776, .int .i64 1099511627777, .int .i64 1099511627775] 3)))
        clear p0 p1 p2 p3 p4 f0 f1 f2 f3 f4 q0 q1 q2 q3 q4 g0 g1 g2 g3 g4 hs1 hs2
        generalize (w3.setCell ⟨W.heap.size, 2, none⟩ (.int .i64 1099511627775)).alloc (.cells #[.int .i64 (-1), .int .i64 1099511627776, .int .i64 1099511627777, .int .i64 1099511627775] 3) = w4 at *
        obtain ⟨⟨⟨p0, p1, p2, p3, p4⟩, f0, f1, f2, f3, f4⟩, ⟨⟨q0, q1, q2, q3, q4⟩, g0, g1, g2, g3, g4⟩, -, -⟩ := H4.out
        have hs1 : W.heap.size < w4.heap.size := H4.out.1.lt
        have hs2 : W.heap.size + 1 < w4.heap.size := H4.out.2.1.lt
        go_wp2
        refine bodyPost_ret (v := .agg #[.int .i64 S, .int .i64 T, .int .i64 1099511627775, .slice (some ⟨g, 0, none⟩) m c2, .bool s]) (by simp [results, Try.results8, go_sem, *]) rfl ?_
        exact AnyQ.done (L := L) ⟨HC.out.1, HC.out.2.1, by dsimp only; omega, by dsimp only; omega⟩ (by have := HQ.out; have := HM.out; omega) H4.out.2.2.1 H4.out.2.2.2 rfl
    · obtain ⟨e3, he3, he30, he31⟩ : ∃ e3 : Int, k44.tdiv 3 = e3 ∧ 0 ≤ e3 ∧ e3 ≤ 1 := ⟨k44 / 3, Int.tdiv_eq_ediv_of_nonneg e50, by omega, by omega⟩
      have HX : Hid ((⟨⟨#[122, 122]⟩, 1 + k % 4, e3⟩ : Ent).ok) := Lib.hid ⟨by dsimp only; decide, ⟨by dsimp only; omega, by dsimp only; omega⟩, ⟨by dsimp only; omega, by dsimp only; omega⟩⟩
      generalize k % 4 = k4 at *
      have HO3 := Lib.hid H3.out.2.2.1
      have HA := Lib.hid (HO3.out.alloc (.cells #[.string ⟨#[122, 122]⟩, .int .i64 (1 + k4), .int .i64 e3] 49))
      have HB := Lib.hid (OwnE.oneAt HX.out w3 rfl).rd.src
      have HC1 := Lib.hid (show W.heap.size + 2 ≤ (w3.alloc (.cells #[.string ⟨#[122, 122]⟩, .int .i64 (1 + k4), .int .i64 e3] 49)).heap.size by simp; omega)
      have HC2 : Hid (L.length + [(⟨⟨#[122, 122]⟩, 1 + k4, e3⟩ : Ent)].length ≤ 1099511627776) := Lib.hid (by have := HM.out; simp <;> omega)
      have K1 := Lib.hid (H3.out.go (b1 (.cells #[.string ⟨#[122, 122]⟩, .int .i64 (1 + k4), .int .i64 e3] 49)))
      go_upto_region 22 with (at_builtin; refine wp_appE rfl _ _ _ rfl (W.heap.size + 2) L [(⟨⟨#[122, 122]⟩, 1 + k4, e3⟩ : Ent)] _ _ rfl rfl HA.out HB.out HC1.out HC2.out ?_; intro u w5 ho5 hb5; obtain ⟨a5, n5, c5, hv5⟩ : ∃ a n c, u = .slice a n c := ho5.rd.shape.elim fun a h => h.elim fun c h => ⟨a, _, c, h⟩; subst hv5; have H5 := Lib.hid (Sp.lay (K1.out.1.below hb5 (by omega)) (K1.out.2.1.below hb5 (by omega)) a5 n5 c5 ho5 (K1.out.2.2.2.trans (hb5.mono (by omega)))); have hs5 := K1.out.1.below hb5 (by omega); clear p0 p1 p2 p3 p4 f0 f1 f2 f3 f4; obtain ⟨⟨p0, p1, p2, p3, p4⟩, f0, f1, f2, f3, f4⟩ := hs5; clear ho5 hb5)
      have H6 := Lib.hid (H5.out)
      clear p0 p1 p2 p3 p4 f0 f1 f2 f3 f4 q0 q1 q2 q3 q4 g0 g1 g2 g3 g4 hs1 hs2
      generalize w5.setCell ⟨W.heap.size, 3, none⟩ (.slice a5 n5 c5) = w6 at *
      obtain ⟨⟨⟨p0, p1, p2, p3, p4⟩, f0, f1, f2, f3, f4⟩, ⟨⟨q0, q1, q2, q3, q4⟩, g0, g1, g2, g3, g4⟩, -, -⟩ := H6.out
      have hs1 : W.heap.size < w6.heap.size := H6.out.1.lt
      have hs2 : W.heap.size + 1 < w6.heap.size := H6.out.2.1.lt
      go_wp2
      refine bodyPost_ret (v := .agg #[.int .i64 S, .int .i64 T, .int .i64 K, .slice a5 n5 c5, .bool s]) (by simp [results, Try.results8, go_sem, *]) rfl ?_
      exact AnyQ.done (L := (L ++ [(⟨⟨#[122, 122]⟩, 1 + k4, e3⟩ : Ent)])) HC.out (by have := HQ.out; have := HM.out; simp; omega) H6.out.2.2.1 H6.out.2.2.2 rfl
    · obtain ⟨tn, htn⟩ : ∃ tn : Nat, k / 8 % 5 = (tn : Int) := ⟨(k / 8 % 5).toNat, by omega⟩
      have ht3 : tn ≤ 4 := by omega
      have htI0 : (0 : Int) ≤ (tn : Int) := by omega
      have htI1 : (tn : Int) < 5 := by omega
      have htm : (k / 8).tmod 5 = (tn : Int) := by rw [Int.tmod_eq_emod_of_nonneg (by omega), htn]
      obtain ⟨y, hyb, hT⟩ : ∃ y : Int, (-9223372036854775808 ≤ y ∧ y ≤ 9223372036854775807) ∧ [Value.int .i64 0, .int .i64 1, .int .i64 1099511627776, .int .i64 1099511627777, .int .i64 1099511627774][tn]? = some (.int .i64 y) := by
        match tn, ht3 with
        | 0, _ => exact ⟨_, by decide, rfl⟩
        | 1, _ => exact ⟨_, by decide, rfl⟩
        | 2, _ => exact ⟨_, by decide, rfl⟩
        | 3, _ => exact ⟨_, by decide, rfl⟩
        | 4, _ => exact ⟨_, by decide, rfl⟩
      have HY := Lib.hid hyb
      clear hyb e80 e81
      obtain ⟨⟨c0, c1, c2'⟩, h0, h1, h2⟩ := H3.out.ent HM.out HJ.out
      have hg1 : ¬ g = W.heap.size := by have := HGB.out; omega
      have hg2 : ¬ W.heap.size = g := by omega
      have hg3 : ¬ g = W.heap.size + 1 := by have := HGB.out; omega
      have hg4 : ¬ W.heap.size + 1 = g := by omega
      have hjI0 : (0 : Int) ≤ (j : Int) := by omega
      have hjI1 : (j : Int) < (m : Int) := by have := HJ.out; omega
      have hne1 := World.new_ne w3 _ p2
      have hne2 := World.new_ne w3 _ c1
      have hg5 : g < w3.heap.size := block_lt_of_cell c1
      have HX := Lib.hid (fun o => ((H3.out.storeC HM.out HGB.out HJ.out HY.out).go (b1 o)).drew)
      rcases hr9 with rfl | rfl
      all_goals
        go_upto_region 18 with (fail)
        refine wp_meet 70 11 (fun wx => ∃ c', Hid (Sp W S T K s (L.set j c') (.slice (some ⟨g, 0, none⟩) m c2) wx)) ?_ ?_
        · intro G hG
          go_region_law (fail)
          all_goals exact hG _ _ ⟨[_, _, _, _, _, _, _, _, _, _, _], rfl, rfl⟩ ⟨_, Lib.hid (HX.out _)⟩
        · clear HX p0 p1 p2 p3 p4 f0 f1 f2 f3 f4 q0 q1 q2 q3 q4 g0 g1 g2 g3 g4 hs1 hs2 hne1 hne2 hg5 c0 c1 c2' h0 h1 h2
          intro a' wz hoff hX
          obtain ⟨us, hus, rfl⟩ := hoff
          obtain ⟨c', H4⟩ := hX
          match us, hus with
          | [u0, u1, u2, u3, u4, u5, u6, u7, u8, u9, u10], _ =>
            simp only [List.take_succ_cons, List.take_zero, List.drop_succ_cons, List.drop_zero, List.cons_append, List.nil_append]
            obtain ⟨⟨⟨p0, p1, p2, p3, p4⟩, f0, f1, f2, f3, f4⟩, ⟨⟨q0, q1, q2, q3, q4⟩, g0, g1, g2, g3, g4⟩, -, -⟩ := H4.out
            have hs1 : W.heap.size < wz.heap.size := H4.out.1.lt
            have hs2 : W.heap.size + 1 < wz.heap.size := H4.out.2.1.lt
            go_wp2
            refine bodyPost_ret (v := .agg #[.int .i64 S, .int .i64 T, .int .i64 K, .slice (some ⟨g, 0, none⟩) m c2, .bool s]) (by simp [results, Try.results8, go_sem, *]) rfl ?_
            exact AnyQ.done (L := (L.set j c')) HC.out (by have := HQ.out; have := HM.out; simp; omega) H4.out.2.2.1 H4.out.2.2.2 rfl
    · have hk := fun w => key_any k816 w (by omega) (by omega)
      have HKS : Hid ((keyS k816).size ≤ maxLen) := Lib.hid (by have := keyS_bd k816; unfold maxLen; omega)
      generalize keyS k816 = KY at *
      have hg1 : ¬ g = W.heap.size := by have := HGB.out; omega
      have hg2 : ¬ W.heap.size = g := by omega
      have hg3 : ¬ g = W.heap.size + 1 := by have := HGB.out; omega
      have hg4 : ¬ W.heap.size + 1 = g := by omega
      have hjI0 : (0 : Int) ≤ (j : Int) := by omega
      have hjI1 : (j : Int) < (m : Int) := by have := HJ.out; omega
      go_upto_region 21 with (fail)
      obtain ⟨⟨c0, c1, c2'⟩, h0, h1, h2⟩ := H3.out.ent HM.out HJ.out
      refine wp_meet 87 9 (fun wx => ∃ c', Hid (Sp W S T K s (L.set j c') (.slice (some ⟨g, 0, none⟩) m c2) wx)) ?_ ?_
      · intro G hG
        go_region_law (go_simp; go_at_call 25; (with_reducible refine (hk _).mono ?_); rintro e w4 ⟨rfl, hb4⟩; have H4 := Lib.hid (H3.out.go ((Below.refl _ _).drew.trans hb4)); obtain ⟨⟨⟨p0, p1, p2, p3, p4⟩, f0, f1, f2, f3, f4⟩, -, -, -⟩ := H4.out; obtain ⟨⟨c0, c1, c2'⟩, h0, h1, h2⟩ := H4.out.ent HM.out HJ.out; clear hb4)
        all_goals exact hG _ _ ⟨[_, _, _, _, _, _, _, _, _], rfl, rfl⟩ ⟨_, Lib.hid (H4.out.storeK HM.out HGB.out HJ.out HKS.out)⟩
      · clear p0 p1 p2 p3 p4 f0 f1 f2 f3 f4 q0 q1 q2 q3 q4 g0 g1 g2 g3 g4 hs1 hs2 c0 c1 c2' h0 h1 h2
        intro a' wz hoff hX
        obtain ⟨us, hus, rfl⟩ := hoff
        obtain ⟨c', H4⟩ := hX
        match us, hus with
        | [u0, u1, u2, u3, u4, u5, u6, u7, u8], _ =>
          simp only [List.take_succ_cons, List.take_zero, List.drop_succ_cons, List.drop_zero, List.cons_append, List.nil_append]
          obtain ⟨⟨⟨p0, p1, p2, p3, p4⟩, f0, f1, f2, f3, f4⟩, ⟨⟨q0, q1, q2, q3, q4⟩, g0, g1, g2, g3, g4⟩, -, -⟩ := H4.out
          have hs1 : W.heap.size < wz.heap.size := H4.out.1.lt
          have hs2 : W.heap.size + 1 < wz.heap.size := H4.out.2.1.lt
          go_wp2
          refine bodyPost_ret (v := .agg #[.int .i64 S, .int .i64 T, .int .i64 K, .slice (some ⟨g, 0, none⟩) m c2, .bool s]) (by simp [results, Try.results8, go_sem, *]) rfl ?_
          exact AnyQ.done (L := (L.set j c')) HC.out (by have := HQ.out; have := HM.out; simp; omega) H4.out.2.2.1 H4.out.2.2.2 rfl
    · go_upto_region 22 with (fail)
      go_wp2
      refine bodyPost_ret (v := .agg #[.int .i64 S, .int .i64 T, .int .i64 K, .slice (some ⟨g, 0, none⟩) m c2, .bool s]) (by simp [results, Try.results8, go_sem, *]) rfl ?_
      exact AnyQ.done (L := L) HC.out (by have := HQ.out; have := HM.out; omega) H3.out.2.2.1 H3.out.2.2.2 rfl
  · skip
    obtain rfl : m = 0 := by omega
    obtain rfl : L = [] := List.eq_nil_of_length_eq_zero HM.out
    clear hp
    go_enter Try.func8, Try.ntmps8
    go_upto_region 6 with ((at_builtin; refine wp_appE rfl _ _ _ rfl (W.heap.size + 2) [] ([] : List Ent) _ _ rfl rfl (OwnE.empty _ _) HR.out.src (by simp) (by have := HM.out; simp <;> omega) ?_; intro u w2 ho2 hb2; rw [List.nil_append] at ho2; have B2 := Lib.hid (B0.out.trans (hb2.mono (by omega))); have C2 := Lib.hid (C0.out.below hb2 (by omega)); have Z2 := Lib.hid (Z0.out.below hb2 (by omega)); obtain ⟨⟨p0, p1, p2, p3, p4⟩, f0, f1, f2, f3, f4⟩ := C2.out; obtain ⟨⟨q0, q1, q2, q3, q4⟩, g0, g1, g2, g3, g4⟩ := Z2.out; have hs1 : W.heap.size < w2.heap.size := C2.out.lt; have hs2 : W.heap.size + 1 < w2.heap.size := Z2.out.lt; have O2 := Lib.hid ho2; obtain ⟨a2, c2, hv2⟩ := ho2.rd.shape; rw [HM.out] at hv2; subst hv2; clear ho2 hb2 HR))
    have H3 := Lib.hid (Sp.lay C2.out Z2.out a2 0 c2 O2.out B2.out)
    clear p0 p1 p2 p3 p4 f0 f1 f2 f3 f4 q0 q1 q2 q3 q4 g0 g1 g2 g3 g4 hs1 hs2 C2 Z2 O2 B2 C0 Z0 B0
    generalize w2.setCell ⟨W.heap.size, 3, none⟩ (.slice a2 0 c2) = w3 at *
    obtain ⟨⟨⟨p0, p1, p2, p3, p4⟩, f0, f1, f2, f3, f4⟩, ⟨⟨q0, q1, q2, q3, q4⟩, g0, g1, g2, g3, g4⟩, -, -⟩ := H3.out
    have hs1 : W.heap.size < w3.heap.size := H3.out.1.lt
    have hs2 : W.heap.size + 1 < w3.heap.size := H3.out.2.1.lt
    rcases hr9 with rfl | rfl | rfl | rfl | hr9 | rfl | ⟨r0, r1, r2, r3, r4, r5, r6⟩
    · go_upto_region 22 with (fail)
      have H4 := Lib.hid (H3.out.setS (k64 - 2))
      clear p0 p1 p2 p3 p4 f0 f1 f2 f3 f4 q0 q1 q2 q3 q4 g0 g1 g2 g3 g4 hs1 hs2
      generalize w3.setCell ⟨W.heap.size, 0, none⟩ (.int .i64 (k64 - 2)) = w4 at *
      obtain ⟨⟨⟨p0, p1, p2, p3, p4⟩, f0, f1, f2, f3, f4⟩, ⟨⟨q0, q1, q2, q3, q4⟩, g0, g1, g2, g3, g4⟩, -, -⟩ := H4.out
      have hs1 : W.heap.size < w4.heap.size := H4.out.1.lt
      have hs2 : W.heap.size + 1 < w4.heap.size := H4.out.2.1.lt
      go_wp2
      refine bodyPost_ret (v := .agg #[.int .i64 (k64 - 2), .int .i64 T, .int .i64 K, .slice a2 0 c2, .bool s]) (by simp [results, Try.results8, go_sem, *]) rfl ?_
      exact AnyQ.done (L := []) ⟨⟨by dsimp only; omega, by dsimp only; omega⟩, HC.out.2⟩ (by simp) H4.out.2.2.1 H4.out.2.2.2 rfl
    · rcases hk4 with h4 | h4 | h4 | h4 <;> rw [h4] at m4 <;> clear h4 e40 e41
      · go_upto_region 22 with (fail)
        have H4 := Lib.hid ((H3.out.setT (-1)).go (b1 (.cells #[.int .i64 (-1), .int .i64 1099511627776, .int .i64 1099511627777, .int .i64 1099511627775] 3)))
        clear p0 p1 p2 p3 p4 f0 f1 f2 f3 f4 q0 q1 q2 q3 q4 g0 g1 g2 g3 g4 hs1 hs2
        generalize (w3.setCell ⟨W.heap.size, 1, none⟩ (.int .i64 (-1))).alloc (.cells #[.int .i64 (-1), .int .i64 1099511627776, .int .i64 1099511627777, .int .i64 1099511627775] 3) = w4 at *
        obtain ⟨⟨⟨p0, p1, p2, p3, p4⟩, f0, f1, f2, f3, f4⟩, ⟨⟨q0, q1, q2, q3, q4⟩, g0, g1, g2, g3, g4⟩, -, -⟩ := H4.out
        have hs1 : W.heap.size < w4.heap.size := H4.out.1.lt
        have hs2 : W.heap.size + 1 < w4.heap.size := H4.out.2.1.lt
        go_wp2
        refine bodyPost_ret (v := .agg #[.int .i64 S, .int .i64 (-1), .int .i64 K, .slice a2 0 c2, .bool s]) (by simp [results, Try.results8, go_sem, *]) rfl ?_
        exact AnyQ.done (L := []) ⟨HC.out.1, ⟨by dsimp only; omega, by dsimp only; omega⟩, HC.out.2.2⟩ (by simp) H4.out.2.2.1 H4.out.2.2.2 rfl
      · go_upto_region 22 with (fail)
        have H4 := Lib.hid ((H3.out.setT 1099511627776).go (b1 (.cells #[.int .i64 (-1), .int .i64 1099511627776, .int .i64 1099511627777, .int .i64 1099511627775] 3)))
        clear p0 p1 p2 p3 p4 f0 f1 f2 f3 f4 q0 q1 q2 q3 q4 g0 g1 g2 g3 g4 hs1 hs2
        generalize (w3.setCell ⟨W.heap.size, 1, none⟩ (.int .i64 1099511627776)).alloc (.cells #[.int .i64 (-1), .int .i64 1099511627776, .int .i64 1099511627777, .int .i64 1099511627775] 3) = w4 at *
        obtain ⟨⟨⟨p0, p1, p2, p3, p4⟩, f0, f1, f2, f3, f4⟩, ⟨⟨q0, q1, q2, q3, q4⟩, g0, g1, g2, g3, g4⟩, -, -⟩ := H4.out
        have hs1 : W.heap.size < w4.heap.size := H4.out.1.lt
        have hs2 : W.heap.size + 1 < w4.heap.size := H4.out.2.1.lt
        go_wp2
        refine bodyPost_ret (v := .agg #[.int .i64 S, .int .i64 1099511627776, .int .i64 K, .slice a2 0 c2, .bool s]) (by simp [results, Try.results8, go_sem, *]) rfl ?_
        exact AnyQ.done (L := []) ⟨HC.out.1, ⟨by dsimp only; omega, by dsimp only; omega⟩, HC.out.2.2⟩ (by simp) H4.out.2.2.1 H4.out.2.2.2 rfl
      · go_upto_region 22 with (fail)
        have H4 := Lib.hid ((H3.out.setT 1099511627777).go (b1 (.cells #[.int .i64 (-1), .int .i64 1099511627776, .int .i64 1099511627777, .int .i64 1099511627775] 3)))
        clear p0 p1 p2 p3 p4 f0 f1 f2 f3 f4 q0 q1 q2 q3 q4 g0 g1 g2 g3 g4 hs1 hs2
        generalize (w3.setCell ⟨W.heap.size, 1, none⟩ (.int .i64 1099511627777)).alloc (.cells #[.int .i64 (-1), .int .i64 1099511627776, .int .i64 1099511627777, .int .i64 1099511627775] 3) = w4 at *
        obtain ⟨⟨⟨p0, p1, p2, p3, p4⟩, f0, f1, f2, f3, f4⟩, ⟨⟨q0, q1, q2, q3, q4⟩, g0, g1, g2, g3, g4⟩, -, -⟩ := H4.out
        have hs1 : W.heap.size < w4.heap.size := H4.out.1.lt
        have hs2 : W.heap.size + 1 < w4.heap.size := H4.out.2.1.lt
        go_wp2
        refine bodyPost_ret (v := .agg #[.int .i64 S, .int .i64 1099511627777, .int .i64 K, .slice a2 0 c2, .bool s]) (by simp [results, Try.results8, go_sem, *]) rfl ?_
        exact AnyQ.done (L := []) ⟨HC.out.1, ⟨by dsimp only; omega, by dsimp only; omega⟩, HC.out.2.2⟩ (by simp) H4.out.2.2.1 H4.out.2.2.2 rfl
      · go_upto_region 22 with (fail)
        have H4 := Lib.hid ((H3.out.setT 1099511627775).go (b1 (.cells #[.int .i64 (-1), .int .i64 1099511627776, .int .i64 1099511627777, .int .i64 1099511627775] 3)))
        clear p0 p1 p2 p3 p4 f0 f1 f2 f3 f4 q0 q1 q2 q3 q4 g0 g1 g2 g3 g4 hs1 hs2
        generalize (w3.setCell ⟨W.heap.size, 1, none⟩ (.int .i64 1099511627775)).alloc (.cells #[.int .i64 (-1), .int .i64 1099511627776, .int .i64 1099511627777, .int .i64 1099511627775] 3) = w4 at *
        obtain ⟨⟨⟨p0, p1, p2, p3, p4⟩, f0, f1, f2, f3, f4⟩, ⟨⟨q0, q1, q2, q3, q4⟩, g0, g1, g2, g3, g4⟩, -, -⟩ := H4.out
        have hs1 : W.heap.size < w4.heap.size := H4.out.1.lt
        have hs2 : W.heap.size + 1 < w4.heap.size := H4.out.2.1.lt
        go_wp2
        refine bodyPost_ret (v := .agg #[.int .i64 S, .int .i64 1099511627775, .int .i64 K, .slice a2 0 c2, .bool s]) (by simp [results, Try.results8, go_sem, *]) rfl ?_
        exact AnyQ.done (L := []) ⟨HC.out.1, ⟨by dsimp only; omega, by dsimp only; omega⟩, HC.out.2.2⟩ (by simp) H4.out.2.2.1 H4.out.2.2.2 rfl
    · rcases hk4 with h4 | h4 | h4 | h4 <;> rw [h4] at m4 <;> clear h4 e40 e41
      · go_upto_region 22 with (fail)
        have H4 := Lib.hid ((H3.out.setK (-1)).go (b1 (.cells #[.int .i64 (-1), .int .i64 1099511627776, .int .i64 1099511627777, .int .i64 1099511627775] 3)))
        clear p0 p1 p2 p3 p4 f0 f1 f2 f3 f4 q0 q1 q2 q3 q4 g0 g1 g2 g3 g4 hs1 hs2
        generalize (w3.setCell ⟨W.heap.size, 2, none⟩ (.int .i64 (-1))).alloc (.cells #[.int .i64 (-1), .int .i64 1099511627776, .int .i64 1099511627777, .int .i64 1099511627775] 3) = w4 at *
        obtain ⟨⟨⟨p0, p1, p2, p3, p4⟩, f0, f1, f2, f3, f4⟩, ⟨⟨q0, q1, q2, q3, q4⟩, g0, g1, g2, g3, g4⟩, -, -⟩ := H4.out
        have hs1 : W.heap.size < w4.heap.size := H4.out.1.lt
        have hs2 : W.heap.size + 1 < w4.heap.size := H4.out.2.1.lt
        go_wp2
        refine bodyPost_ret (v := .agg #[.int .i64 S, .int .i64 T, .int .i64 (-1), .slice a2 0 c2, .bool s]) (by simp [results, Try.results8, go_sem, *]) rfl ?_
        exact AnyQ.done (L := []) ⟨HC.out.1, HC.out.2.1, by dsimp only; omega, by dsimp only; omega⟩ (by simp) H4.out.2.2.1 H4.out.2.2.2 rfl
      · go_upto_region 22 with (fail)
        have H4 := Lib.hid ((H3.out.setK 1099511627776).go (b1 (.cells #[.int .i64 (-1), .int .i64 1099511627776, .int .i64 1099511627777, .int .i64 1099511627775] 3)))
        clear p0 p1 p2 p3 p4 f0 f1 f2 f3 f4 q0 q1 q2 q3 q4 g0 g1 g2 g3 g4 hs1 hs2
        generalize (w3.setCell ⟨W.heap.size, 2, none⟩ (.int .i64 1099511627776)).alloc (.cells #[.int .i64 (-1), .int .i64 1099511627776, .int .i64 1099511627777, .int .i64 1099511627775] 3) = w4 at *
        obtain ⟨⟨⟨p0, p1, p2, p3, p4⟩, f0, f1, f2, f3, f4⟩, ⟨⟨q0, q1, q2, q3, q4⟩, g0, g1, g2, g3, g4⟩, -, -⟩ := H4.out
        have hs1 : W.heap.size < w4.heap.size := H4.out.1.lt
        have hs2 : W.heap.size + 1 < w4.heap.size := H4.out.2.1.lt
        go_wp2
        refine bodyPost_ret (v := .agg #[.int .i64 S, .int .i64 T, .int .i64 1099511627776, .slice a2 0 c2, .bool s]) (by simp [results, Try.results8, go_sem, *]) rfl ?_
        exact AnyQ.done (L := []) ⟨HC.out.1, HC.out.2.1, by dsimp only; omega, by dsimp only; omega⟩ (by simp) H4.out.2.2.1 H4.out.2.2.2 rfl
      · go_upto_region 22 with (fail)
        have H4 := Lib.hid ((H3.out.setK 1099511627777).go (b1 (.cells #[.int .i64 (-1), .int .i64 1099511627776, .int .i64 1099511627777, .int .i64 1099511627775] 3)))
        clear p0 p1 p2 p3 p4 f0 f1 f2 f3 f4 q0 q1 q2 q3 q4 g0 g1 g2 g3 g4 hs1 hs2
        generalize (w3.setCell ⟨W.heap.size, 2, none⟩ (.int .i64 1099511627777)).alloc (.cells #[.int .i64 (-1), .int .i64 1099511627776, .int .i64 1099511627777, .int .i64 1099511627775] 3) = w4 at *
        obtain ⟨⟨⟨p0, p1, p2, p3, p4⟩, f0, f1, f2, f3, f4⟩, ⟨⟨q0, q1, q2, q3, q4⟩, g0, g1, g2, g3, g4⟩, -, -⟩ := H4.out
        have hs1 : W.heap.size < w4.heap.size := H4.out.1.lt
        have hs2 : W.heap.size + 1 < w4.heap.size := H4.out.2.1.lt
        go_wp2
        refine bodyPost_ret (v := .agg #[.int .i64 S, .int .i64 T, .int .i64 1099511627777, .slice a2 0 c2, .bool s]) (by simp [results, Try.results8, go_sem, *]) rfl ?_
        exact AnyQ.done (L := []) ⟨HC.out.1, HC.out.2.1, by dsimp only; omega, by dsimp only; omega⟩ (by simp) H4.out.2.2.1 H4.out.2.2.2 rfl
      · go_upto_region 22 with (fail)
        have H4 := Lib.hid ((H3.out.setK 1099511627775).go (b1 (.cells #[.int .i64 (-1), .int .i64 1099511627776, .int .i64 1099511627777, .int .i64 1099511627775] 3)))
        clear p0 p1 p2 p3 p4 f0 f1 f2 f3 f4 q0 q1 q2 q3 q4 g0 g1 g2 g3 g4 hs1 hs2
        generalize (w3.setCell ⟨W.heap.size, 2, none⟩ (.int .i64 1099511627775)).alloc (.cells #[.int .i64 (-1), .int .i64 1099511627776, .int .i64 1099511627777, .int .i64 1099511627775] 3) = w4 at *
        obtain ⟨⟨⟨p0, p1, p2, p3, p4⟩, f0, f1, f2, f3, f4⟩, ⟨⟨q0, q1, q2, q3, q4⟩, g0, g1, g2, g3, g4⟩, -, -⟩ := H4.out
        have hs1 : W.heap.size < w4.heap.size := H4.out.1.lt
        have hs2 : W.heap.size + 1 < w4.heap.size := H4.out.2.1.lt
        go_wp2
        refine bodyPost_ret (v := .agg #[.int .i64 S, .int .i64 T, .int .i64 1099511627775, .slice a2 0 c2, .bool s]) (by simp [results, Try.results8, go_sem, *]) rfl ?_
        exact AnyQ.done (L := []) ⟨HC.out.1, HC.out.2.1, by dsimp only; omega, by dsimp only; omega⟩ (by simp) H4.out.2.2.1 H4.out.2.2.2 rfl
    · obtain ⟨e3, he3, he30, he31⟩ : ∃ e3 : Int, k44.tdiv 3 = e3 ∧ 0 ≤ e3 ∧ e3 ≤ 1 := ⟨k44 / 3, Int.tdiv_eq_ediv_of_nonneg e50, by omega, by omega⟩
      have HX : Hid ((⟨⟨#[122, 122]⟩, 1 + k % 4, e3⟩ : Ent).ok) := Lib.hid ⟨by dsimp only; decide, ⟨by dsimp only; omega, by dsimp only; omega⟩, ⟨by dsimp only; omega, by dsimp only; omega⟩⟩
      generalize k % 4 = k4 at *
      have HA := Lib.hid (H3.out.2.2.1.alloc (.cells #[.string ⟨#[122, 122]⟩, .int .i64 (1 + k4), .int .i64 e3] 49))
      have HB := Lib.hid (OwnE.oneAt HX.out w3 rfl).rd.src
      have HC1 := Lib.hid (show W.heap.size + 2 ≤ (w3.alloc (.cells #[.string ⟨#[122, 122]⟩, .int .i64 (1 + k4), .int .i64 e3] 49)).heap.size by simp; omega)
      have HC2 : Hid (([] : List Ent).length + [(⟨⟨#[122, 122]⟩, 1 + k4, e3⟩ : Ent)].length ≤ 1099511627776) := Lib.hid (by simp <;> omega)
      have K1 := Lib.hid (H3.out.go (b1 (.cells #[.string ⟨#[122, 122]⟩, .int .i64 (1 + k4), .int .i64 e3] 49)))
      go_upto_region 22 with (at_builtin; refine wp_appE rfl _ _ _ rfl (W.heap.size + 2) [] [(⟨⟨#[122, 122]⟩, 1 + k4, e3⟩ : Ent)] _ _ rfl rfl HA.out HB.out HC1.out HC2.out ?_; intro u w5 ho5 hb5; obtain ⟨a5, n5, c5, hv5⟩ : ∃ a n c, u = .slice a n c := ho5.rd.shape.elim fun a h => h.elim fun c h => ⟨a, _, c, h⟩; subst hv5; have H5 := Lib.hid (Sp.lay (K1.out.1.below hb5 (by omega)) (K1.out.2.1.below hb5 (by omega)) a5 n5 c5 ho5 (K1.out.2.2.2.trans (hb5.mono (by omega)))); have hs5 := K1.out.1.below hb5 (by omega); clear p0 p1 p2 p3 p4 f0 f1 f2 f3 f4; obtain ⟨⟨p0, p1, p2, p3, p4⟩, f0, f1, f2, f3, f4⟩ := hs5; clear ho5 hb5)
      have H6 := Lib.hid (H5.out)
      clear p0 p1 p2 p3 p4 f0 f1 f2 f3 f4 q0 q1 q2 q3 q4 g0 g1 g2 g3 g4 hs1 hs2
      generalize w5.setCell ⟨W.heap.size, 3, none⟩ (.slice a5 n5 c5) = w6 at *
      obtain ⟨⟨⟨p0, p1, p2, p3, p4⟩, f0, f1, f2, f3, f4⟩, ⟨⟨q0, q1, q2, q3, q4⟩, g0, g1, g2, g3, g4⟩, -, -⟩ := H6.out
      have hs1 : W.heap.size < w6.heap.size := H6.out.1.lt
      have hs2 : W.heap.size + 1 < w6.heap.size := H6.out.2.1.lt
      go_wp2
      refine bodyPost_ret (v := .agg #[.int .i64 S, .int .i64 T, .int .i64 K, .slice a5 n5 c5, .bool s]) (by simp [results, Try.results8, go_sem, *]) rfl ?_
      exact AnyQ.done (L := ([] ++ [(⟨⟨#[122, 122]⟩, 1 + k4, e3⟩ : Ent)])) HC.out (by simp) H6.out.2.2.1 H6.out.2.2.2 rfl
    · rcases hr9 with rfl | rfl
      · go_upto_region 22 with (fail)
        go_wp2
        refine bodyPost_ret (v := .agg #[.int .i64 S, .int .i64 T, .int .i64 K, .slice a2 0 c2, .bool s]) (by simp [results, Try.results8, go_sem, *]) rfl ?_
        exact AnyQ.done (L := []) HC.out (by simp) H3.out.2.2.1 H3.out.2.2.2 rfl
      · go_upto_region 22 with (fail)
        go_wp2
        refine bodyPost_ret (v := .agg #[.int .i64 S, .int .i64 T, .int .i64 K, .slice a2 0 c2, .bool s]) (by simp [results, Try.results8, go_sem, *]) rfl ?_
        exact AnyQ.done (L := []) HC.out (by simp) H3.out.2.2.1 H3.out.2.2.2 rfl
    · go_upto_region 22 with (fail)
      go_wp2
      refine bodyPost_ret (v := .agg #[.int .i64 S, .int .i64 T, .int .i64 K, .slice a2 0 c2, .bool s]) (by simp [results, Try.results8, go_sem, *]) rfl ?_
      exact AnyQ.done (L := []) HC.out (by simp) H3.out.2.2.1 H3.out.2.2.2 rfl
    · go_upto_region 22 with (fail)
      go_wp2
      refine bodyPost_ret (v := .agg #[.int .i64 S, .int .i64 T, .int .i64 K, .slice a2 0 c2, .bool s]) (by simp [results, Try.results8, go_sem, *]) rfl ?_
      exact AnyQ.done (L := []) HC.out (by simp) H3.out.2.2.1 H3.out.2.2.2 rfl
end Go.Proofs.Ytmmdnomfpfcjiaa
