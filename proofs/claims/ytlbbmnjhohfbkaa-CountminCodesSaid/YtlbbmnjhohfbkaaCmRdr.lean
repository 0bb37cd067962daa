/- The contracts of countmin's reader of encodings: skip, number, word. -/
import Derived.Test.YtlbbmnjhohfbkaaCmNew
import Derived.Test.YtlbbmnjhohfbkaaRRdr
import Derived.Test.YtlbbmnjhohfbkaaWire
namespace Go.Proofs.Ytlbbmnjhohfbkaa
open Go.RowKit
set_option linter.unusedVariables false
set_option linter.unusedSimpArgs false
/-- What follows a word. -/
def restW (L : List Int) : List Int := L.drop (decW L).2.1.toNat
/-- A reader in memory: what is left, whether something was wrong. -/
def PSt (g : Nat) (v : Value) (f : Bool) (w : World) : Prop :=
  (w.cell? ⟨g, 0, none⟩ = some v ∧ w.cell? ⟨g, 1, none⟩ = some (.bool f)) ∧ w.frozen? ⟨g, 0, none⟩ = false ∧ w.frozen? ⟨g, 1, none⟩ = false
theorem PSt.keep {g : Nat} {v : Value} {f : Bool} {w w' : World} (h : PSt g v f w) (hb : w'.heap[g]? = w.heap[g]?) : PSt g v f w' := by
  obtain ⟨⟨h0, h1⟩, f0, f1⟩ := h
  exact ⟨⟨(World.cell?_of_block (w := w) (a := ⟨g, 0, none⟩) hb).trans h0, (World.cell?_of_block (w := w) (a := ⟨g, 1, none⟩) hb).trans h1⟩, (World.frozen?_of_block (w := w) (a := ⟨g, 0, none⟩) hb).trans f0, (World.frozen?_of_block (w := w) (a := ⟨g, 1, none⟩) hb).trans f1⟩
theorem PSt.below {g : Nat} {v : Value} {f : Bool} {w w' : World} (h : PSt g v f w) {B : Nat} (hb : Below B w w') (hg : g < B) : PSt g v f w' := h.keep (hb.block g hg)
theorem PSt.size {g : Nat} {v : Value} {f : Bool} {w : World} (h : PSt g v f w) : g < w.heap.size := block_lt_of_cell h.1.1
theorem PSt.far {g : Nat} {v : Value} {f : Bool} {w : World} (h : PSt g v f w) {b : Nat} (hb : g ≠ b) (o : Nat) (u : Value) : PSt g v f (w.setCell ⟨b, o, none⟩ u) :=
  h.keep (Below.heap_setCell w ⟨b, o, none⟩ u g hb)
theorem PSt.set {g : Nat} {v : Value} {f : Bool} {w : World} (h : PSt g v f w) (a : Option Addr) (n c : Nat) (t : Bool) : PSt g (.slice a n c) t ((w.setCell ⟨g, 0, none⟩ (.slice a n c)).setCell ⟨g, 1, none⟩ (.bool t)) := by
  obtain ⟨⟨h0, h1⟩, f0, f1⟩ := h
  exact ⟨⟨by go_simp, by go_simp⟩, by go_simp, by go_simp⟩
theorem tlV_shape {L : List Int} {v : Value} {w : World} (h : Rd L v w) (k : Nat) (hk : k ≤ L.length) : ∃ a n c, tlV v k = .slice a n c := by
  obtain ⟨_, a, c, h', _⟩ := (h.tl k hk)
  exact ⟨a, _, c, h'⟩
set_option maxRecDepth 100000 in
theorem skip_any (g : Nat) (R : List Int) (v : Value) (f : Bool) (j : Nat) (E : Int) (w W : World) (h : Rd R v W) (hj : j ≤ R.length) (hp : PSt g v f w) :
    Calls Try.prog 70 #[.pointer (some ⟨g, 0, none⟩), .int .i64 j, .int .i64 E] w fun e w' =>
      e = .returned (.tuple #[]) ∧ w' = (w.setCell ⟨g, 0, none⟩ (tlV v j)).setCell ⟨g, 1, none⟩ (.bool (f || E != 0)) := by
  have hr := fun w => tlV_run h j hj w
  obtain ⟨a, n, c, hv⟩ := tlV_shape h j hj
  rw [hv] at hr ⊢
  obtain ⟨⟨c0, c1⟩, f0, f1⟩ := hp
  clear h hj hv
  cases f
  all_goals
    go_enter Try.func70, Try.ntmps70
    go_wp2
    refine bodyPost_end (v := .tuple #[]) (by simp [results, Try.results70, go_sem]) rfl ⟨rfl, ?_⟩
    rfl
set_option maxRecDepth 100000 in
theorem pnum_any (g : Nat) (R : List Int) (v : Value) (f : Bool) (w W : World) (h : Rd R v W) (hb : Below W.heap.size W w) (hp : PSt g v f w) :
    Calls Try.prog 57 #[.pointer (some ⟨g, 0, none⟩)] w fun e w' =>
      e = .returned (.int .i64 (decU R).1) ∧ w' = (w.setCell ⟨g, 0, none⟩ (tlV v (decU R).2.1.toNat)).setCell ⟨g, 1, none⟩ (.bool (f || (decU R).2.2 != 0)) := by
  obtain ⟨b0, b1, b2, b3, b4, b5, b6, b7⟩ := decU_bd h.1
  have hd := decUint_any R v w (h.below hb)
  have hs := skip_any g R v f (decU R).2.1.toNat (decU R).2.2 w W h (by omega) hp
  have hju : (((decU R).2.1.toNat : Nat) : Int) = (decU R).2.1 := by omega
  rw [hju] at hs
  obtain ⟨⟨c0, c1⟩, f0, f1⟩ := hp
  obtain ⟨a, n, c, rfl⟩ : ∃ a n c, v = .slice a n c := by
    obtain ⟨_, a, c, h', _⟩ := h
    exact ⟨a, _, c, h'⟩
  clear h hb hju b0 b1 b2 b3 b4 b5 b6 b7
  generalize tlV (.slice a n c) (decU R).2.1.toNat = u at *
  generalize (decU R).1 = x at *
  generalize (decU R).2.1 = y at *
  generalize (decU R).2.2 = z at *
  go_enter Try.func57, Try.ntmps57
  go_wp2_with (first
    | (go_at_call 69; refine hd.mono ?_; rintro e w' ⟨rfl, rfl⟩)
    | (go_at_call 70; refine hs.mono ?_; rintro e w' ⟨rfl, rfl⟩))
  go_ret
  exact ⟨rfl, rfl⟩
set_option maxRecDepth 100000 in
theorem pword_any (g : Nat) (R : List Int) (v : Value) (f : Bool) (w W : World) (h : Rd R v W) (hb : Below W.heap.size W w) (hp : PSt g v f w) :
    Calls Try.prog 58 #[.pointer (some ⟨g, 0, none⟩)] w fun e w' =>
      e = .returned (.int .u64 (decW R).1) ∧ w' = (w.setCell ⟨g, 0, none⟩ (tlV v (decW R).2.1.toNat)).setCell ⟨g, 1, none⟩ (.bool (f || (decW R).2.2 != 0)) := by
  obtain ⟨b0, b1, b2, b3, b4⟩ := decW_bd h.1
  have hd := decWord_any R v w (h.below hb)
  have hs := skip_any g R v f (decW R).2.1.toNat (decW R).2.2 w W h (by omega) hp
  have hju : (((decW R).2.1.toNat : Nat) : Int) = (decW R).2.1 := by omega
  rw [hju] at hs
  obtain ⟨⟨c0, c1⟩, f0, f1⟩ := hp
  obtain ⟨a, n, c, rfl⟩ : ∃ a n c, v = .slice a n c := by
    obtain ⟨_, a, c, h', _⟩ := h
    exact ⟨a, _, c, h'⟩
  clear h hb hju b0 b1 b2 b3 b4
  generalize tlV (.slice a n c) (decW R).2.1.toNat = u at *
  generalize (decW R).1 = x at *
  generalize (decW R).2.1 = y at *
  generalize (decW R).2.2 = z at *
  go_enter Try.func58, Try.ntmps58
  go_wp2_with (first
    | (go_at_call 71; refine hd.mono ?_; rintro e w' ⟨rfl, rfl⟩)
    | (go_at_call 70; refine hs.mono ?_; rintro e w' ⟨rfl, rfl⟩))
  go_ret
  exact ⟨rfl, rfl⟩
/-- A reader at the bytes R, as they lay in the world W. -/
def DS (W : World) (g : Nat) (R : List Int) (f : Bool) (w : World) : Prop := ∃ v, PSt g v f w ∧ Rd R v W
theorem DS.keep {W : World} {g : Nat} {R : List Int} {f : Bool} {w w' : World} (h : DS W g R f w) (hb : w'.heap[g]? = w.heap[g]?) : DS W g R f w' := by
  obtain ⟨v, h1, h2⟩ := h
  exact ⟨v, h1.keep hb, h2⟩
theorem DS.size {W : World} {g : Nat} {R : List Int} {f : Bool} {w : World} (h : DS W g R f w) : g < w.heap.size := by
  obtain ⟨v, h1, h2⟩ := h
  exact h1.size
theorem DS.byt {W : World} {g : Nat} {R : List Int} {f : Bool} {w : World} (h : DS W g R f w) : Byt R := by
  obtain ⟨v, h1, h2⟩ := h
  exact h2.1
/-- Only block g has turned. -/
def Oth (g : Nat) (w w' : World) : Prop := Below g w w' ∧ ∀ b, b ≠ g → w'.heap[b]? = w.heap[b]?
theorem Oth.two (g : Nat) (w : World) (a c : Value) : Oth g w ((w.setCell ⟨g, 0, none⟩ a).setCell ⟨g, 1, none⟩ c) :=
  ⟨((Below.refl g w).setCell (p := ⟨g, 0, none⟩) (Nat.le_refl _) _).setCell (p := ⟨g, 1, none⟩) (Nat.le_refl _) _, fun b hb => by
    rw [Below.heap_setCell _ ⟨g, 1, none⟩ _ _ hb, Below.heap_setCell _ ⟨g, 0, none⟩ _ _ hb]⟩
theorem CSt.oth {g h : Nat} {D S x : Int} {v : Value} {s : Bool} {w w' : World} (hc : CSt h D S x v s w) (ho : Oth g w w') (hg : h ≠ g) : CSt h D S x v s w' := hc.keep (ho.2 h hg)
theorem OwnI.oth {B g : Nat} {L : List Int} {v : Value} {w w' : World} (h : OwnI B L v w) (ho : Oth g w w') (hg : g < B) : OwnI B L v w' := by
  obtain ⟨hy, h1, h2⟩ := h
  refine ⟨hy, h1, ?_⟩
  rcases h2 with h2 | ⟨b, cap, cur, rfl, hb', hg', r⟩
  · exact .inl h2
  · exact .inr ⟨b, cap, cur, rfl, hb', (ho.2 b (by omega)).trans hg', r⟩
theorem dnum_any {W : World} {g : Nat} {R : List Int} {f : Bool} {w : World} (h : DS W g R f w) (hb : Below W.heap.size W w) :
    Calls Try.prog 57 #[.pointer (some ⟨g, 0, none⟩)] w fun e w' =>
      e = .returned (.int .i64 (decU R).1) ∧ DS W g (restU R) (f || (decU R).2.2 != 0) w' ∧ Oth g w w' := by
  obtain ⟨v, h1, h2⟩ := h
  have hj : (decU R).2.1.toNat ≤ R.length := by have := decU_bd h2.1; omega
  refine (pnum_any g R v f w W h2 hb h1).mono ?_
  rintro e w' ⟨rfl, rfl⟩
  obtain ⟨a, n, c, hv⟩ := tlV_shape h2 _ hj
  refine ⟨rfl, ⟨tlV v (decU R).2.1.toNat, ?_, h2.tl _ hj⟩, Oth.two _ _ _ _⟩
  rw [hv]
  exact h1.set a n c _
theorem dword_any {W : World} {g : Nat} {R : List Int} {f : Bool} {w : World} (h : DS W g R f w) (hb : Below W.heap.size W w) :
    Calls Try.prog 58 #[.pointer (some ⟨g, 0, none⟩)] w fun e w' =>
      e = .returned (.int .u64 (decW R).1) ∧ DS W g (restW R) (f || (decW R).2.2 != 0) w' ∧ Oth g w w' := by
  obtain ⟨v, h1, h2⟩ := h
  have hj : (decW R).2.1.toNat ≤ R.length := by have := decW_bd h2.1; omega
  refine (pword_any g R v f w W h2 hb h1).mono ?_
  rintro e w' ⟨rfl, rfl⟩
  obtain ⟨a, n, c, hv⟩ := tlV_shape h2 _ hj
  refine ⟨rfl, ⟨tlV v (decW R).2.1.toNat, ?_, h2.tl _ hj⟩, Oth.two _ _ _ _⟩
  rw [hv]
  exact h1.set a n c _
end Go.Proofs.Ytlbbmnjhohfbkaa
