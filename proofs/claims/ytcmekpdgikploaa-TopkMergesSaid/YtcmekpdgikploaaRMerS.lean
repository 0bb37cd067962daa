/- The memory of the reference's merge; its list of pairs, step by step. -/
import Derived.Test.YtcmekpdgikploaaMerS
import Derived.Test.YtcmekpdgikploaaRFind9
namespace Go.Proofs.Ytcmekpdgikploaa
open Go.RowKit
set_option linter.unusedVariables false
set_option linter.unusedSimpArgs false
/-- The frame but for n slots from i on, which are vs, and m slots from j on. -/
def OffL (i n j m : Nat) (vs : List Value) (a a' : Act) : Prop := vs.length = n ∧ ∃ us : List Value, us.length = m ∧ a' = ⟨((a.tmps.toList.take i ++ vs ++ a.tmps.toList.drop (i + n)).take j ++ us ++ a.tmps.toList.drop (j + m)).toArray, a.defers⟩
theorem wp_meetL {P : Program} {s : Code} {Q : Exit → Act → World → Prop} {a : Act} {w : World} (i n j m : Nat) (R : List Value → World → Prop)
    (first : ∀ G : Act → World → Prop, (∀ a' w' vs, OffL i n j m vs a a' → R vs w' → G a' w') → s.wp P (Plain G) a w)
    (rest : ∀ a' w' vs, OffL i n j m vs a a' → R vs w' → Q .normal a' w') : s.wp P Q a w := by
  refine wp_mono (first (fun a' w' => ∃ vs, OffL i n j m vs a a' ∧ R vs w') (fun _ _ vs h1 h2 => ⟨vs, h1, h2⟩)) ?_
  intro e a' w' h
  cases e with
  | normal =>
    obtain ⟨vs, h1, h2⟩ := h
    exact rest _ _ _ h1 h2
  | _ => exact h.elim
/-- The pairs behind i entries of both lists, one behind the other. -/
def pR (L M : List Ent) (la lb : Int) (i : Nat) : List (Ent × Ent) := if i < L.length then pA L M lb i else pB L M la lb (i - L.length)
theorem pR_zero (L M : List Ent) (la lb : Int) : pR L M la lb 0 = [] := by
  unfold pR
  split
  · exact pA_zero L M lb
  · have : L = [] := List.eq_nil_of_length_eq_zero (by omega)
    subst this
    simp [pB, newK]
theorem pR_all (L M : List Ent) (la lb : Int) : pR L M la lb (L.length + M.length) = pB L M la lb M.length := by
  unfold pR
  rw [if_neg (by omega), Nat.add_sub_cancel_left]
theorem pR_len (L M : List Ent) (la lb : Int) (i : Nat) : (pR L M la lb i).length ≤ L.length + M.length := by
  unfold pR
  split
  · have := pA_len L M lb i; omega
  · exact pB_len L M la lb _
theorem pR_A (L M : List Ent) (la lb : Int) {i : Nat} (h : i ≤ L.length) : pR L M la lb i = pA L M lb i := by
  unfold pR
  split
  · rfl
  · rw [show i = L.length by omega, pA_all L M la lb, Nat.sub_self]
theorem hasK_getD {L : List Ent} {i : Nat} (h : i < L.length) : hasK L (L.getD i Ent.z).k = true := by
  have := hasK_of (L := L) (j := L.length) h (Nat.le_refl _) (sameK_self (L.getD i Ent.z).k)
  rwa [List.take_length] at this
theorem pR_step {L M : List Ent} (ho1 : OneL L) (ho2 : OneL M) (la lb : Int) {i : Nat} (hi : i < L.length + M.length) {k : ByteArray} (hk : ((L ++ M).getD i Ent.z).k = k) :
    (hasK (jn (pR L M la lb i)) k = true → pR L M la lb (i + 1) = pR L M la lb i) ∧ (hasK (jn (pR L M la lb i)) k = false → pR L M la lb (i + 1) = pR L M la lb i ++ [(entAt L k la, entAt M k lb)]) := by
  subst hk
  by_cases hL : i < L.length
  · have hg : (L ++ M).getD i Ent.z = L.getD i Ent.z := by simp [List.getD, List.getElem?_append_left hL]
    rw [hg, pR_A L M la lb (show i ≤ L.length by omega), pR_A L M la lb (show i + 1 ≤ L.length by omega), hasK_pA]
    have h1 := ho1 i hL
    refine ⟨fun h => (by rw [h1] at h; cases h), fun _ => ?_⟩
    rw [pA_succ M lb hL, entAt_self ho1 hL]
    rfl
  · obtain ⟨j, rfl⟩ : ∃ j, i = L.length + j := ⟨i - L.length, by omega⟩
    have hj : j < M.length := by omega
    have hg : (L ++ M).getD (L.length + j) Ent.z = M.getD j Ent.z := by simp [List.getD, List.getElem?_append_right]
    have e1 : pR L M la lb (L.length + j) = pB L M la lb j := by unfold pR; rw [if_neg (by omega), Nat.add_sub_cancel_left]
    have e2 : pR L M la lb (L.length + j + 1) = pB L M la lb (j + 1) := by unfold pR; rw [if_neg (by omega)]; congr 1; omega
    have h2 := ho2 j hj
    rw [hg, e1, e2, hasK_pB, h2, Bool.or_false]
    refine ⟨fun h => pB_old la lb hj h, fun h => ?_⟩
    rw [pB_new la lb hj h, entAt_self ho2 hj]
    rfl
theorem OwnE.firm {B Bz : Nat} {L : List Ent} {v : Value} {w w' : World} (h : OwnE B L v w) (hz : ∀ g, v.ownBlock = some g → g < Bz) (hb : Below Bz w w') : OwnE B L v w' := by
  obtain ⟨hy, h1, h2⟩ := h
  refine ⟨hy, h1, ?_⟩
  rcases h2 with h2 | ⟨g, cap, cur, rfl, hb', hg, r⟩
  · exact .inl h2
  · exact .inr ⟨g, cap, cur, rfl, hb', (hb.block g (hz g rfl)).trans hg, r⟩
/-- The state of the reference's merge: the structs, the result under way in block g, both lists in one slice. -/
def RM (W : World) (S T : Int) (u : Value) (s : Bool) (T' : Int) (u' : Value) (s' : Bool) (g : Nat) (t : Int) (r : Bool) (E : List Ent) (vB : Value) (Bz : Nat) (w : World) : Prop :=
  MB W S T u s S T' u' s' w ∧ TopS g S t (.slice none 0 0) r w ∧ OwnE 0 E vB w ∧ W.heap.size + 3 ≤ g ∧ g < Bz ∧ (∀ k, vB.ownBlock = some k → k < Bz) ∧ Bz ≤ w.heap.size
section
variable {W : World} {S T : Int} {u : Value} {s : Bool} {T' : Int} {u' : Value} {s' : Bool} {g : Nat} {t : Int} {r : Bool} {E : List Ent} {vB : Value} {Bz : Nat} {w w' : World}
theorem RM.mb (h : RM W S T u s T' u' s' g t r E vB Bz w) : MB W S T u s S T' u' s' w := h.1
theorem RM.bel (h : RM W S T u s T' u' s' g t r E vB Bz w) : Below W.heap.size W w := h.1.2.2.2
theorem RM.top (h : RM W S T u s T' u' s' g t r E vB Bz w) : TopS g S t (.slice none 0 0) r w := h.2.1
theorem RM.own (h : RM W S T u s T' u' s' g t r E vB Bz w) : OwnE 0 E vB w := h.2.2.1
theorem RM.keep (h : RM W S T u s T' u' s' g t r E vB Bz w) (hb : Below Bz w w') : RM W S T u s T' u' s' g t r E vB Bz w' := by
  obtain ⟨h1, h2, h3, h4, h5, h6, h7⟩ := h
  exact ⟨h1.keep (hb.mono (by omega)), h2.keep (hb.block g h5), h3.firm h6 hb, h4, h5, h6, Nat.le_trans h7 hb.size⟩
theorem RM.go (h : RM W S T u s T' u' s' g t r E vB Bz w) (hb : Below w.heap.size w w') : RM W S T u s T' u' s' g t r E vB Bz w' := h.keep (hb.mono h.2.2.2.2.2.2)
theorem RM.al (h : RM W S T u s T' u' s' g t r E vB Bz w) (o : Obj) : RM W S T u s T' u' s' g t r E vB Bz (w.alloc o) := h.go (b1 o)
theorem RM.drew (h : RM W S T u s T' u' s' g t r E vB Bz w) : RM W S T u s T' u' s' g t r E vB Bz w.drew := h.go (Below.refl _ _).drew
theorem RM.put (h : RM W S T u s T' u' s' g t r E vB Bz w) {k : Nat} (hk : Bz ≤ k) (o : Nat) (x : Value) : RM W S T u s T' u' s' g t r E vB Bz (w.setCell ⟨k, o, none⟩ x) := h.keep (bsetB (Below.refl _ _) _ _ _ hk)
theorem RM.flag (h : RM W S T u s T' u' s' g t r E vB Bz w) (hne : vB.ownBlock ≠ some g) (q : Bool) : RM W S T u s T' u' s' g t q E vB Bz (w.setCell ⟨g, 3, none⟩ (.bool q)) := by
  obtain ⟨h1, h2, h3, h4, h5, h6, h7⟩ := h
  refine ⟨h1.put h4 _ _, ?_, ⟨h3.1, ownsRow_setCell_other h3.2 hne _⟩, h4, h5, h6, by simpa using h7⟩
  obtain ⟨⟨a0, a1, a2, a3⟩, f0, f1, f2, f3⟩ := h2
  exact ⟨⟨by go_simp, by go_simp, by go_simp, by go_simp⟩, by go_simp, by go_simp, by go_simp, by go_simp⟩
theorem RM.lt (h : RM W S T u s T' u' s' g t r E vB Bz w) : Bz ≤ w.heap.size := h.2.2.2.2.2.2
end
/-- .. and the list under way, in slice vl. -/
def RL (W : World) (S T : Int) (u : Value) (s : Bool) (T' : Int) (u' : Value) (s' : Bool) (g : Nat) (t : Int) (r : Bool) (E : List Ent) (gB n cap : Nat) (Bz : Nat) (P : List Ent) (vl : Value) (w : World) : Prop :=
  OwnE Bz P vl w ∧ RM W S T u s T' u' s' g t r E (.slice (some ⟨gB, 0, none⟩) n cap) Bz w
section
variable {W : World} {S T : Int} {u : Value} {s : Bool} {T' : Int} {u' : Value} {s' : Bool} {g : Nat} {t : Int} {r : Bool} {E : List Ent} {gB n cap : Nat} {Bz : Nat} {P : List Ent} {vl : Value} {w0 w w' : World}
theorem RL.own (h : RL W S T u s T' u' s' g t r E gB n cap Bz P vl w) : OwnE Bz P vl w := h.1
theorem RL.rm (h : RL W S T u s T' u' s' g t r E gB n cap Bz P vl w) : RM W S T u s T' u' s' g t r E (.slice (some ⟨gB, 0, none⟩) n cap) Bz w := h.2
theorem RL.bel (h : RL W S T u s T' u' s' g t r E gB n cap Bz P vl w) : Below W.heap.size W w := h.2.bel
theorem RL.go (h : RL W S T u s T' u' s' g t r E gB n cap Bz P vl w) (hb : Below w.heap.size w w') : RL W S T u s T' u' s' g t r E gB n cap Bz P vl w' := ⟨h.1.below hb, h.2.go hb⟩
theorem RL.al (h : RL W S T u s T' u' s' g t r E gB n cap Bz P vl w) (o : Obj) : RL W S T u s T' u' s' g t r E gB n cap Bz P vl (w.alloc o) := h.go (b1 o)
theorem RL.drew (h : RL W S T u s T' u' s' g t r E gB n cap Bz P vl w) : RL W S T u s T' u' s' g t r E gB n cap Bz P vl w.drew := h.go (Below.refl _ _).drew
theorem RL.putE (h0 : RL W S T u s T' u' s' g t r E gB n cap Bz P vl w0) (h : RL W S T u s T' u' s' g t r E gB n cap Bz P vl w) (o : Nat) (x : Value) : RL W S T u s T' u' s' g t r E gB n cap Bz P vl (w.setCell ⟨w0.heap.size, o, none⟩ x) :=
  ⟨h.1.firm (fun k e => (World.ownsRow.lt h0.1.2 k e).2) (bsetB (Below.refl _ _) _ _ _ (Nat.le_refl _)), h.2.put h0.2.lt _ _⟩
theorem RL.c9 (h : RL W S T u s T' u' s' g t r E gB n cap Bz P vl w) (hn : E.length = n) {q : Nat} (hq : q < n) {K : ByteArray} (hK : (E.getD q Ent.z).k = K) :
    (w.cell? ⟨W.heap.size, 0, none⟩ = some (.int .i64 S) ∧ w.cell? ⟨W.heap.size, 1, none⟩ = some (.int .i64 T) ∧ w.cell? ⟨W.heap.size, 2, none⟩ = some u ∧ w.cell? ⟨W.heap.size, 3, none⟩ = some (.bool s) ∧
    w.cell? ⟨W.heap.size + 1, 0, none⟩ = some (.int .i64 S) ∧ w.cell? ⟨W.heap.size + 1, 1, none⟩ = some (.int .i64 T') ∧ w.cell? ⟨W.heap.size + 1, 2, none⟩ = some u' ∧ w.cell? ⟨W.heap.size + 1, 3, none⟩ = some (.bool s')) ∧ w.cell? ⟨gB, q * 3, none⟩ = some (.string K) := by
  subst hn
  refine ⟨h.2.mb.cells8, ?_⟩
  rw [← hK]
  exact (h.2.own.cellsAt hq).1
theorem RL.c9f (h : RL W S T u s T' u' s' g t r E gB n cap Bz P vl w) (hn : E.length = n) {q : Nat} (hq : q < n) {K : ByteArray} (hK : (E.getD q Ent.z).k = K) :
    w.cell? ⟨W.heap.size, 0, none⟩ = some (.int .i64 S) ∧ w.cell? ⟨W.heap.size, 1, none⟩ = some (.int .i64 T) ∧ w.cell? ⟨W.heap.size, 2, none⟩ = some u ∧ w.cell? ⟨W.heap.size, 3, none⟩ = some (.bool s) ∧
    w.cell? ⟨W.heap.size + 1, 0, none⟩ = some (.int .i64 S) ∧ w.cell? ⟨W.heap.size + 1, 1, none⟩ = some (.int .i64 T') ∧ w.cell? ⟨W.heap.size + 1, 2, none⟩ = some u' ∧ w.cell? ⟨W.heap.size + 1, 3, none⟩ = some (.bool s') ∧ w.cell? ⟨gB, q * 3, none⟩ = some (.string K) := by
  obtain ⟨⟨h0, h1, h2, h3, h4, h5, h6, h7⟩, h8⟩ := h.c9 hn hq hK
  exact ⟨h0, h1, h2, h3, h4, h5, h6, h7, h8⟩
theorem RL.flag (h : RL W S T u s T' u' s' g t r E gB n cap Bz P vl w) (hne : (Value.slice (some ⟨gB, 0, none⟩) n cap).ownBlock ≠ some g) (q : Bool) : RL W S T u s T' u' s' g t q E gB n cap Bz P vl (w.setCell ⟨g, 3, none⟩ (.bool q)) :=
  ⟨h.1.keep h.2.2.2.2.2.1 _ _, h.2.flag hne q⟩
theorem RL.grow (h : RL W S T u s T' u' s' g t r E gB n cap Bz P vl w) {P' : List Ent} {vl' : Value} (ho : OwnE Bz P' vl' w') (hb : Below Bz w w') : RL W S T u s T' u' s' g t r E gB n cap Bz P' vl' w' := ⟨ho, h.2.keep hb⟩
theorem RL.glt (h : RL W S T u s T' u' s' g t r E gB n cap Bz P vl w) : g < Bz := h.2.2.2.2.2.1
theorem At3.stay {x : Ent} {b : Nat} {w w' : World} {B : Nat} (h : At3 x b 0 w) (hb : Below B w w') (hl : b < B) : At3 x b 0 w' := h.keep (hb.block b hl)
theorem At3.laid {x : Ent} {g : Nat} {w : World} (h : En3 g w) : At3 x g 0 (((w.setCell ⟨g, 0, none⟩ (.string x.k)).setCell ⟨g, 1, none⟩ (.int .i64 x.c)).setCell ⟨g, 2, none⟩ (.int .i64 x.e)) := by
  obtain ⟨⟨a0, a1, a2⟩, f0, f1, f2⟩ := h
  exact ⟨by go_simp, by go_simp, by go_simp⟩
theorem En3.new' (w : World) : En3 w.heap.size (w.alloc (.cells #[.string ⟨#[]⟩, .int .i64 0, .int .i64 0] 49)) := ⟨⟨by go_simp, by go_simp, by go_simp⟩, by go_simp, by go_simp, by go_simp⟩
theorem En3.go {g : Nat} {w w' : World} (h : En3 g w) (hb : Below w.heap.size w w') : En3 g w' := h.keep (hb.block _ h.lt)
end
end Go.Proofs.Ytcmekpdgikploaa
