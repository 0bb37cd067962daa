/- Vt9, Rows9: in one text. -/
import Derived.Test.YtcmekpdgikploaaRIns
import Derived.Test.YtcmekpdgikploaaSkT
import Derived.Test.YtcmekpdgikploaaMerS
import Derived.Test.YtcmekpdgikploaaStrRow
import Derived.Test.YtcmekpdgikploaaIntRow
import Derived.Test.YtcmekpdgikploaaSpcA
namespace Go.Proofs.Ytcmekpdgikploaa
open Go.RowKit
set_option linter.unusedVariables false
set_option linter.unusedSimpArgs false
/-- The variable in block g holds summary c; its slice is v. -/
def Vt (g : Nat) (c : TP) (v : Value) (w : World) : Prop := TR g c.S c.T v c.s w ∧ ∃ B, OwnE B c.L v w
theorem Vt.lt {g : Nat} {c : TP} {v : Value} {w : World} (h : Vt g c v w) : g < w.heap.size := h.1.lt
theorem Vt.rd {g : Nat} {c : TP} {v : Value} {w : World} (h : Vt g c v w) : RdE c.L v w := by obtain ⟨_, B, h⟩ := h; exact h.rd
theorem Vt.go {g : Nat} {c : TP} {v : Value} {w w' : World} (h : Vt g c v w) (hb : Below w.heap.size w w') : Vt g c v w' := by
  obtain ⟨h1, B, h2⟩ := h
  exact ⟨h1.keep (hb.block _ h1.lt), B, h2.below hb⟩
theorem Vt.al {g : Nat} {c : TP} {v : Value} {w : World} (h : Vt g c v w) (o : Obj) : Vt g c v (w.alloc o) := h.go (b1 o)
theorem Vt.new {c : TP} {v : Value} {B : Nat} {w : World} (h : OwnE B c.L v w) : Vt w.heap.size c v (w.alloc (.cells #[.int .i64 c.S, .int .i64 c.T, v, .bool c.s] 25)) := ⟨TR.new _ _ _ _ _, B, h.alloc _⟩
theorem Vt.cells {g : Nat} {c : TP} {v : Value} {w : World} (h : Vt g c v w) :
    (w.cell? ⟨g, 0, none⟩ = some (.int .i64 c.S) ∧ w.cell? ⟨g, 1, none⟩ = some (.int .i64 c.T) ∧ w.cell? ⟨g, 2, none⟩ = some v ∧ w.cell? ⟨g, 3, none⟩ = some (.bool c.s)) ∧ w.frozen? ⟨g, 0, none⟩ = false ∧ w.frozen? ⟨g, 1, none⟩ = false ∧ w.frozen? ⟨g, 2, none⟩ = false ∧ w.frozen? ⟨g, 3, none⟩ = false := h.1.cells
/-- It is overwritten. -/
theorem Vt.put {g : Nat} {c d : TP} {v : Value} {w : World} (h : Vt g c v w) {B : Nat} {u : Value} (hd : OwnE B d.L u w) : Vt g d u ((((w.setCell ⟨g, 0, none⟩ (.int .i64 d.S)).setCell ⟨g, 1, none⟩ (.int .i64 d.T)).setCell ⟨g, 2, none⟩ u).setCell ⟨g, 3, none⟩ (.bool d.s)) := by
  have ha := h.1.apart hd
  exact ⟨(((h.1.set0 d.S).set1 d.T).set2 u).set3 d.s, B, ((((hd.away ha _ _).away ha _ _).away ha _ _).away ha _ _)⟩
/-- Another variable is written. -/
theorem Vt.other {g k : Nat} {c e : TP} {v v' : Value} {w : World} (h : Vt g c v w) (hk : Vt k e v' w) (hne : g ≠ k) (x0 x1 x2 x3 : Value) : Vt g c v ((((w.setCell ⟨k, 0, none⟩ x0).setCell ⟨k, 1, none⟩ x1).setCell ⟨k, 2, none⟩ x2).setCell ⟨k, 3, none⟩ x3) := by
  obtain ⟨h1, B, h2⟩ := h
  have ha := hk.1.apart h2
  refine ⟨h1.keep ?_, B, ((((h2.away ha _ _).away ha _ _).away ha _ _).away ha _ _)⟩
  rw [Below.heap_setCell _ ⟨k, 3, none⟩ _ _ hne, Below.heap_setCell _ ⟨k, 2, none⟩ _ _ hne, Below.heap_setCell _ ⟨k, 1, none⟩ _ _ hne, Below.heap_setCell _ ⟨k, 0, none⟩ _ _ hne]
/-- Two variables. -/
def V2 (W : World) (g : Nat) (c : TP) (v : Value) (k : Nat) (d : TP) (u : Value) (w : World) : Prop := Vt g c v w ∧ Vt k d u w ∧ g ≠ k ∧ W.heap.size ≤ g ∧ W.heap.size ≤ k ∧ Below W.heap.size W w
theorem V2.go {W : World} {g k : Nat} {c d : TP} {v u : Value} {w w' : World} (h : V2 W g c v k d u w) (hb : Below w.heap.size w w') : V2 W g c v k d u w' := ⟨h.1.go hb, h.2.1.go hb, h.2.2.1, h.2.2.2.1, h.2.2.2.2.1, bgo h.2.2.2.2.2 hb⟩
theorem V2.al {W : World} {g k : Nat} {c d : TP} {v u : Value} {w : World} (h : V2 W g c v k d u w) (o : Obj) : V2 W g c v k d u (w.alloc o) := h.go (b1 o)
theorem V2.bel {W : World} {g k : Nat} {c d : TP} {v u : Value} {w : World} (h : V2 W g c v k d u w) : Below W.heap.size W w := h.2.2.2.2.2
theorem V2.one {W : World} {g k : Nat} {c d : TP} {v u : Value} {w : World} (h : V2 W g c v k d u w) : Vt g c v w := h.1
theorem V2.two {W : World} {g k : Nat} {c d : TP} {v u : Value} {w : World} (h : V2 W g c v k d u w) : Vt k d u w := h.2.1
theorem V2.rd1 {W : World} {g k : Nat} {c d : TP} {v u : Value} {w : World} (h : V2 W g c v k d u w) : RdE c.L v w := h.1.rd
theorem V2.rd2 {W : World} {g k : Nat} {c d : TP} {v u : Value} {w : World} (h : V2 W g c v k d u w) : RdE d.L u w := h.2.1.rd
theorem V2.put1 {W : World} {g k : Nat} {c d e : TP} {v u : Value} {w : World} (h : V2 W g c v k d u w) {B : Nat} {x : Value} (he : OwnE B e.L x w) :
    V2 W g e x k d u ((((w.setCell ⟨g, 0, none⟩ (.int .i64 e.S)).setCell ⟨g, 1, none⟩ (.int .i64 e.T)).setCell ⟨g, 2, none⟩ x).setCell ⟨g, 3, none⟩ (.bool e.s)) := by
  obtain ⟨h1, h2, h3, h4, h5, h6⟩ := h
  exact ⟨h1.put he, h2.other h1 (Ne.symm h3) _ _ _ _, h3, h4, h5, bset (bset (bset (bset h6 _ _ _ h4) _ _ _ h4) _ _ _ h4) _ _ _ h4⟩
theorem V2.put2 {W : World} {g k : Nat} {c d e : TP} {v u : Value} {w : World} (h : V2 W g c v k d u w) {B : Nat} {x : Value} (he : OwnE B e.L x w) :
    V2 W g c v k e x ((((w.setCell ⟨k, 0, none⟩ (.int .i64 e.S)).setCell ⟨k, 1, none⟩ (.int .i64 e.T)).setCell ⟨k, 2, none⟩ x).setCell ⟨k, 3, none⟩ (.bool e.s)) := by
  obtain ⟨h1, h2, h3, h4, h5, h6⟩ := h
  exact ⟨h1.other h2 h3 _ _ _ _, h2.put he, h3, h4, h5, bset (bset (bset (bset h6 _ _ _ h5) _ _ _ h5) _ _ _ h5) _ _ _ h5⟩
theorem V2.new {W : World} {c d : TP} {v u : Value} {B g : Nat} {w w' : World} (h : Vt g c v w) (hb : Below W.heap.size W w) (hw : Below w.heap.size w w') (ho : OwnE B d.L u w') (hg : W.heap.size ≤ g) :
    V2 W g c v w'.heap.size d u (w'.alloc (.cells #[.int .i64 d.S, .int .i64 d.T, u, .bool d.s] 25)) := by
  have hl := (h.go hw).lt
  exact ⟨(h.go hw).al _, Vt.new ho, by omega, hg, (bgo hb hw).size, bal (bgo hb hw) _⟩
/-- The item in block i survives that a variable is written. -/
theorem Two.other {i : Nat} {K : ByteArray} {y : Int} {w : World} (h : Two i K y w) {g : Nat} {c : TP} {v : Value} (hv : Vt g c v w) (x0 x1 x2 x3 : Value) (hne : i ≠ g) : Two i K y ((((w.setCell ⟨g, 0, none⟩ x0).setCell ⟨g, 1, none⟩ x1).setCell ⟨g, 2, none⟩ x2).setCell ⟨g, 3, none⟩ x3) := by
  have hb : ((((w.setCell ⟨g, 0, none⟩ x0).setCell ⟨g, 1, none⟩ x1).setCell ⟨g, 2, none⟩ x2).setCell ⟨g, 3, none⟩ x3).heap[i]? = w.heap[i]? := by
    rw [Below.heap_setCell _ ⟨g, 3, none⟩ _ _ hne, Below.heap_setCell _ ⟨g, 2, none⟩ _ _ hne, Below.heap_setCell _ ⟨g, 1, none⟩ _ _ hne, Below.heap_setCell _ ⟨g, 0, none⟩ _ _ hne]
  exact ⟨(World.cell?_of_block (w := w) (a := ⟨i, 0, none⟩) hb).trans h.1, (World.cell?_of_block (w := w) (a := ⟨i, 1, none⟩) hb).trans h.2.1, by simpa using h.2.2⟩
theorem row_apart {w : World} {B B' : Nat} {t t' : TypeId} {m m' : Nat} {v v' : Value} {n n' : Nat} {c c' : List Value} (h : w.ownsRow B t m v n c) (h' : w.ownsRow B' t' m' v' n' c') (ht : t ≠ t') {g : Nat} (hg : v.ownBlock = some g) : v'.ownBlock ≠ some g := by
  intro e
  rcases h.2 with ⟨rfl, _⟩ | ⟨g1, cap, cur, rfl, _, hc, _⟩
  · cases hg
  · injection hg with hg
    have hg : g1 = g := hg
    subst hg
    rcases h'.2 with ⟨rfl, _⟩ | ⟨g2, cap2, cur2, rfl, _, hc2, _⟩
    · cases e
    · injection e with e
      have e : g2 = g1 := e
      subst e
      rw [hc] at hc2
      injection hc2 with hc2
      injection hc2 with _ h3 _
      exact ht h3
theorem row_keep {w w' : World} {B : Nat} {t : TypeId} {m : Nat} {v : Value} {n : Nat} {c : List Value} (h : w.ownsRow B t m v n c) (hb : ∀ g, g < w.heap.size → v.ownBlock = some g → w'.heap[g]? = w.heap[g]?) : w'.ownsRow B t m v n c := by
  refine ⟨h.1, ?_⟩
  rcases h.2 with h2 | ⟨g1, cap, cur, rfl, h3, hc, r⟩
  · exact .inl h2
  · exact .inr ⟨g1, cap, cur, rfl, h3, (hb g1 (Array.getElem?_eq_some_iff.1 hc).1 rfl).trans hc, r⟩
/-- Just the own row of v has turned. -/
def Lone (v : Value) (w w' : World) : Prop := w.heap.size ≤ w'.heap.size ∧ ∀ g, g < w.heap.size → v.ownBlock ≠ some g → w'.heap[g]? = w.heap[g]?
theorem row_lone {w w' : World} {B B' : Nat} {t t' : TypeId} {m m' : Nat} {v v' : Value} {n n' : Nat} {c c' : List Value} (h : w.ownsRow B t m v n c) (h' : w.ownsRow B' t' m' v' n' c') (ht : t ≠ t') (hl : Lone v' w w') : w'.ownsRow B t m v n c :=
  row_keep h (fun g hg e => hl.2 g hg (row_apart h h' ht e))
theorem Lone.set {a : Option Addr} {n cap g : Nat} (w : World) (j : Nat) (x : Value) (ha : a = some ⟨g, 0, none⟩) : Lone (.slice a n cap) w (w.setCell ⟨g, j, none⟩ x) := by
  subst ha
  exact ⟨by simp, fun k hk hne => Below.heap_setCell _ ⟨g, j, none⟩ _ _ (fun e => hne (by rw [e]; rfl))⟩
/-- append, onto strings and ints of the call's own: just its own row turns. -/
theorem wp_appGS {w : World} {ops : Array Oper} {rest : List Oper} {o : Oper} {a : Act} {Q : Exit → Act → World → Prop} (hgd : o.guard = none) (s x : Operand) (tx : TypeId)
    (ho : o.op = .call { callee := .builtin .append, args := #[s, x], argTypes := #[53, tx] }) (B : Nat) (L M : List ByteArray) (v u : Value) (hs : a.eval s = v) (hx : a.eval x = u)
    (hown : OwnS B L v w) (hsrc : FromS M tx u w) (hB : B ≤ w.heap.size) (hn : L.length + M.length ≤ 1099511627776)
    (h : ∀ v' w', OwnS B (L ++ M) v' w' → Below B w w' → Lone v w w' → wpList Try.prog ops Q rest (a.put o.dst v') w') : wpList Try.prog ops Q (o :: rest) a w := by
  obtain ⟨i0, hi, hz0, hz1, hz2⟩ := info_parts info_str
  refine wpList_own_src w hgd s x 53 tx ho B 9 i0 (.string ByteArray.empty) 1 16 Try.underlying53 hi hz0 hz1 hz2 rfl (by decide) v L.length (cellsS L) hs hown u M.length (cellsS M) hx hsrc (by unfold maxLen; omega) (by omega) hB ?_
  intro v' w' h1 h2
  have hb := (Below.refl B w).grown h2 hB (fun k hk => (World.ownsRow.lt hown k hk).1)
  refine h v' w' ?_ hb ⟨hb.size, fun g hg hne => h2.block g hg (Ne.symm hne)⟩
  unfold OwnS
  rw [List.length_append, cellsS_app]
  exact h1
theorem wp_appGI {w : World} {ops : Array Oper} {rest : List Oper} {o : Oper} {a : Act} {Q : Exit → Act → World → Prop} (hgd : o.guard = none) (s x : Operand) (tx : TypeId)
    (ho : o.op = .call { callee := .builtin .append, args := #[s, x], argTypes := #[22, tx] }) (B : Nat) (L M : List Int) (v u : Value) (hs : a.eval s = v) (hx : a.eval x = u)
    (hown : OwnI B L v w) (hsrc : FromI M tx u w) (hB : B ≤ w.heap.size) (hn : L.length + M.length ≤ 1099511627776)
    (h : ∀ v' w', OwnI B (L ++ M) v' w' → Below B w w' → Lone v w w' → wpList Try.prog ops Q rest (a.put o.dst v') w') : wpList Try.prog ops Q (o :: rest) a w := by
  obtain ⟨i0, hi, hz0, hz1, hz2⟩ := info_parts info_int
  refine wpList_own_src w hgd s x 22 tx ho B 3 i0 (.int .i64 0) 1 8 Try.underlying22 hi hz0 hz1 hz2 rfl (by decide) v L.length (cellsI L) hs hown.2 u M.length (cellsI M) hx hsrc.2 (by unfold maxLen; omega) (by omega) hB ?_
  intro v' w' h1 h2
  have hb := (Below.refl B w).grown h2 hB (fun k hk => (World.ownsRow.lt hown.2 k hk).1)
  refine h v' w' ⟨hown.1.app hsrc.1, ?_⟩ hb ⟨hb.size, fun g hg hne => h2.block g hg (Ne.symm hne)⟩
  rw [List.length_append, cellsI_app]
  exact h1
/-- The state of TopkHeavy: a summary, keys, weights. -/
def HvM (W : World) (g : Nat) (c : TP) (v : Value) (Ks : List ByteArray) (vK : Value) (Ws : List Int) (vW : Value) (w : World) : Prop :=
  Vt g c v w ∧ OwnS W.heap.size Ks vK w ∧ OwnI W.heap.size Ws vW w ∧ W.heap.size ≤ g ∧ Below W.heap.size W w
section
variable {W : World} {g : Nat} {c d : TP} {v : Value} {Ks Ks' : List ByteArray} {vK vK' : Value} {Ws Ws' : List Int} {vW vW' : Value} {w w' : World}
theorem HvM.vt (h : HvM W g c v Ks vK Ws vW w) : Vt g c v w := h.1
theorem HvM.bel (h : HvM W g c v Ks vK Ws vW w) : Below W.heap.size W w := h.2.2.2.2
theorem HvM.rd (h : HvM W g c v Ks vK Ws vW w) : RdE c.L v w := h.1.rd
theorem HvM.ks (h : HvM W g c v Ks vK Ws vW w) : OwnS W.heap.size Ks vK w := h.2.1
theorem HvM.ws (h : HvM W g c v Ks vK Ws vW w) : OwnI W.heap.size Ws vW w := h.2.2.1
theorem HvM.go (h : HvM W g c v Ks vK Ws vW w) (hb : Below w.heap.size w w') : HvM W g c v Ks vK Ws vW w' := ⟨h.1.go hb, h.2.1.below hb, h.2.2.1.below hb, h.2.2.2.1, bgo h.2.2.2.2 hb⟩
theorem HvM.al (h : HvM W g c v Ks vK Ws vW w) (o : Obj) : HvM W g c v Ks vK Ws vW (w.alloc o) := h.go (b1 o)
theorem HvM.drew (h : HvM W g c v Ks vK Ws vW w) : HvM W g c v Ks vK Ws vW w.drew := h.go (Below.refl _ _).drew
theorem HvM.drewN (h : HvM W g c v Ks vK Ws vW w) (n : Nat) : HvM W g c v Ks vK Ws vW (w.drewN n) := h.go (below_drewN (Below.refl _ _) n)
/-- The summary is overwritten. -/
theorem HvM.put (h : HvM W g c v Ks vK Ws vW w) {B : Nat} {u : Value} (hd : OwnE B d.L u w) : HvM W g d u Ks vK Ws vW ((((w.setCell ⟨g, 0, none⟩ (.int .i64 d.S)).setCell ⟨g, 1, none⟩ (.int .i64 d.T)).setCell ⟨g, 2, none⟩ u).setCell ⟨g, 3, none⟩ (.bool d.s)) := by
  obtain ⟨h1, h2, h3, h4, h5⟩ := h
  have hne : ∀ k, k ≠ g → ((((w.setCell ⟨g, 0, none⟩ (.int .i64 d.S)).setCell ⟨g, 1, none⟩ (.int .i64 d.T)).setCell ⟨g, 2, none⟩ u).setCell ⟨g, 3, none⟩ (.bool d.s)).heap[k]? = w.heap[k]? := fun k hk => by
    rw [Below.heap_setCell _ ⟨g, 3, none⟩ _ _ hk, Below.heap_setCell _ ⟨g, 2, none⟩ _ _ hk, Below.heap_setCell _ ⟨g, 1, none⟩ _ _ hk, Below.heap_setCell _ ⟨g, 0, none⟩ _ _ hk]
  exact ⟨h1.put hd, row_keep h2 (fun k _ e => hne k (fun e' => row_apart h2 h1.1 (by decide) e (by rw [e']; rfl))), ⟨h3.1, row_keep h3.2 (fun k _ e => hne k (fun e' => row_apart h3.2 h1.1 (by decide) e (by rw [e']; rfl)))⟩, h4, bset (bset (bset (bset h5 _ _ _ h4) _ _ _ h4) _ _ _ h4) _ _ _ h4⟩
theorem Vt.row (h : Vt g c v w) {B : Nat} {t : TypeId} {m n : Nat} {u : Value} {cs : List Value} (h' : w.ownsRow B t m u n cs) (ht1 : 25 ≠ t) (ht2 : 49 ≠ t) (hl : Lone u w w') : Vt g c v w' := by
  obtain ⟨h1, B', h2, h3⟩ := h
  exact ⟨row_lone h1 h' ht1 hl, B', h2, row_lone h3 h' ht2 hl⟩
/-- The keys have turned; the weights have turned. -/
theorem HvM.keys (h : HvM W g c v Ks vK Ws vW w) (hk : OwnS W.heap.size Ks' vK' w') (hb : Below W.heap.size w w') (hl : Lone vK w w') : HvM W g c v Ks' vK' Ws vW w' :=
  ⟨h.1.row h.2.1 (by decide) (by decide) hl, hk, ⟨h.2.2.1.1, row_lone h.2.2.1.2 h.2.1 (by decide) hl⟩, h.2.2.2.1, h.2.2.2.2.trans hb⟩
theorem HvM.weights (h : HvM W g c v Ks vK Ws vW w) (hk : OwnI W.heap.size Ws' vW' w') (hb : Below W.heap.size w w') (hl : Lone vW w w') : HvM W g c v Ks vK Ws' vW' w' :=
  ⟨h.1.row h.2.2.1.2 (by decide) (by decide) hl, row_lone h.2.1 h.2.2.1.2 (by decide) hl, hk, h.2.2.2.1, h.2.2.2.2.trans hb⟩
end
theorem HvM.stay {W : World} {g : Nat} {c : TP} {v : Value} {Ks : List ByteArray} {vK : Value} {Ws : List Int} {vW : Value} {w0 w w' : World} (h0 : HvM W g c v Ks vK Ws vW w0) (h : HvM W g c v Ks vK Ws vW w) (hb : Below w0.heap.size w w') : HvM W g c v Ks vK Ws vW w' := by
  obtain ⟨⟨a1, B0, a2⟩, a3, a4, a5, a6⟩ := h0
  obtain ⟨⟨h1, B, h2, h3⟩, h4, h5, h6, h7⟩ := h
  have l1 := a1.lt
  exact ⟨⟨h1.keep (hb.block _ l1), B, h2, row_keep h3 (fun k _ e => hb.block k (World.ownsRow.lt a2.2 k e).2)⟩, row_keep h4 (fun k _ e => hb.block k (World.ownsRow.lt a3 k e).2), ⟨h5.1, row_keep h5.2 (fun k _ e => hb.block k (World.ownsRow.lt a4.2 k e).2)⟩, h6, h7.trans (hb.mono a6.size)⟩
/-- An own slice of strings with an element: its cells. -/
theorem OwnS.blk {B : Nat} {L : List ByteArray} {a : Option Addr} {n cap : Nat} {w : World} (h : OwnS B L (.slice a n cap) w) (hp : 0 < L.length) : ∃ g, a = some ⟨g, 0, none⟩ ∧ n = L.length ∧ g < w.heap.size := by
  have h2 := h.2
  rcases h2 with ⟨he, hn⟩ | ⟨g, cap', cur, he, hb, _⟩
  · omega
  · simp only [Value.slice.injEq] at he
    obtain ⟨rfl, hnl, rfl⟩ := he
    exact ⟨g, rfl, hnl, (World.ownsRow.lt h g rfl).2⟩
theorem OwnS.len {B : Nat} {L : List ByteArray} {a : Option Addr} {n cap : Nat} {w : World} (h : OwnS B L (.slice a n cap) w) : n = L.length := by
  obtain ⟨a', cap', he, _⟩ := h.rd
  simp only [Value.slice.injEq] at he
  exact he.2.1
theorem OwnI.len {B : Nat} {L : List Int} {a : Option Addr} {n cap : Nat} {w : World} (h : OwnI B L (.slice a n cap) w) : n = L.length := by
  obtain ⟨a', cap', he⟩ := h.rd.shape
  simp only [Value.slice.injEq] at he
  exact he.2.1
theorem OwnS.at_ {B : Nat} {L : List ByteArray} {g n cap : Nat} {w : World} (h : OwnS B L (.slice (some ⟨g, 0, none⟩) n cap) w) {j : Nat} (hj : j < L.length) : w.cell? ⟨g, j, none⟩ = some (.string (L.getD j ByteArray.empty)) := by
  have e := h.len
  subst e
  exact (World.ownsRow.cellAt h j (by omega)).trans (cellsS_at hj)
/-- What a look at the first q keys has found: the place of k, -1 if it is not among them. -/
def AtK (Ks : List ByteArray) (k : ByteArray) (q : Nat) (c : Int) : Prop := (c = -1 ∧ ∀ j, j < q → Ks.getD j ByteArray.empty ≠ k) ∨ ∃ j : Nat, j < q ∧ c = (j : Int) ∧ Ks.getD j ByteArray.empty = k
theorem AtK.zero (Ks : List ByteArray) (k : ByteArray) : AtK Ks k 0 (-1) := .inl ⟨rfl, fun j h => by omega⟩
theorem AtK.hit {Ks : List ByteArray} {k : ByteArray} {q : Nat} (h : (Ks.getD q ByteArray.empty).toList == k.toList) : AtK Ks k (q + 1) (q : Int) := .inr ⟨q, by omega, rfl, (sameK_iff _ _).1 h⟩
theorem AtK.miss {Ks : List ByteArray} {k : ByteArray} {q : Nat} {c : Int} (ha : AtK Ks k q c) (h : ((Ks.getD q ByteArray.empty).toList == k.toList) = false) : AtK Ks k (q + 1) c := by
  rcases ha with ⟨h1, h2⟩ | ⟨j, h1, h2, h3⟩
  · refine .inl ⟨h1, fun j hj he => ?_⟩
    by_cases hq : j = q
    · subst hq
      have : sameK (Ks.getD j ByteArray.empty) k = true := by rw [he]; exact sameK_self k
      unfold sameK at this
      rw [this] at h
      cases h
    · exact h2 j (by omega) he
  · exact .inr ⟨j, by omega, h2, h3⟩
theorem HvM.putE {W : World} {g : Nat} {c : TP} {v : Value} {Ks : List ByteArray} {vK : Value} {Ws : List Int} {vW : Value} {w0 w : World} (h0 : HvM W g c v Ks vK Ws vW w0) (h : HvM W g c v Ks vK Ws vW w) (o : Nat) (x : Value) : HvM W g c v Ks vK Ws vW (w.setCell ⟨w0.heap.size, o, none⟩ x) := h0.stay h (bsetB (Below.refl _ _) _ _ _ (Nat.le_refl _))
theorem HvM.c6 {W : World} {g : Nat} {c : TP} {v : Value} {Ks : List ByteArray} {gK nK cK : Nat} {Ws : List Int} {gW nW cW : Nat} {w : World} (h : HvM W g c v Ks (.slice (some ⟨gK, 0, none⟩) nK cK) Ws (.slice (some ⟨gW, 0, none⟩) nW cW) w) {q : Nat} {K : ByteArray} {y : Int} (hq : q < Ks.length) (hq2 : q < Ws.length) (hk : Ks.getD q ByteArray.empty = K) (hy : Ws.getD q 0 = y) :
    w.cell? ⟨g, 0, none⟩ = some (.int .i64 c.S) ∧ w.cell? ⟨g, 1, none⟩ = some (.int .i64 c.T) ∧ w.cell? ⟨g, 2, none⟩ = some v ∧ w.cell? ⟨g, 3, none⟩ = some (.bool c.s) ∧ w.cell? ⟨gK, q, none⟩ = some (.string K) ∧ w.cell? ⟨gW, q, none⟩ = some (.int .i64 y) := by
  obtain ⟨⟨h0, h1, h2, h3⟩, -⟩ := h.vt.cells
  obtain ⟨g', he, -, -, hc, -⟩ := h.ws.cells (by omega)
  simp only [Option.some.injEq, Addr.mk.injEq] at he
  obtain ⟨rfl, -⟩ := he
  exact ⟨h0, h1, h2, h3, by rw [← hk]; exact h.ks.at_ hq, by rw [← hy]; exact (hc q hq2).1⟩
theorem En3.new (w : World) : En3 w.heap.size (w.alloc (.cells #[.string ⟨#[]⟩, .int .i64 0, .int .i64 0] 49)) := ⟨⟨by go_simp, by go_simp, by go_simp⟩, by go_simp, by go_simp, by go_simp⟩
theorem En3.bd {g : Nat} {w w' : World} (h : En3 g w) (hb : Below w.heap.size w w') : En3 g w' := h.keep (hb.block _ h.lt)
theorem Two.lone {i : Nat} {K : ByteArray} {y : Int} {v : Value} {w w' : World} (h : Two i K y w) (hl : Lone v w w') (hne : ∀ g, v.ownBlock = some g → g < i) : Two i K y w' := by
  have hb := hl.2 i h.2.2 (fun e => absurd (hne i e) (Nat.lt_irrefl i))
  exact ⟨(World.cell?_of_block (w := w) (a := ⟨i, 0, none⟩) hb).trans h.1, (World.cell?_of_block (w := w) (a := ⟨i, 1, none⟩) hb).trans h.2.1, Nat.lt_of_lt_of_le h.2.2 hl.1⟩
theorem Two.drew {i : Nat} {K : ByteArray} {y : Int} {w : World} (h : Two i K y w) : Two i K y w.drew := h.below (Below.refl _ _).drew
/-- A list of keys, none twice, with the weights of f. -/
structure KW (f : ByteArray → Int) (Ks : List ByteArray) (Ws : List Int) : Prop where
  len : Ks.length = Ws.length
  one : ∀ i j, i < Ks.length → j < Ks.length → Ks.getD i ByteArray.empty = Ks.getD j ByteArray.empty → i = j
  wt : ∀ j, j < Ks.length → Ws.getD j 0 = f (Ks.getD j ByteArray.empty)
  key : ∀ j, j < Ks.length → keyB (byt (Ks.getD j ByteArray.empty)) = true ∧ (Ks.getD j ByteArray.empty).size ≤ maxLen
  non : ∀ k, (∀ j, j < Ks.length → Ks.getD j ByteArray.empty ≠ k) → f k = 0
theorem KW.nil : KW (fun _ => 0) [] [] := ⟨rfl, fun i _ h => by simp at h, fun j h => by simp at h, fun j h => by simp at h, fun _ _ => rfl⟩
theorem KW.old {f : ByteArray → Int} {Ks : List ByteArray} {Ws : List Int} (h : KW f Ks Ws) {j : Nat} (hj : j < Ks.length) {k : ByteArray} (hk : Ks.getD j ByteArray.empty = k) (x : Int) : KW (addW f k x) Ks (Ws.set j (Ws.getD j 0 + x)) := by
  refine ⟨by rw [List.length_set]; exact h.len, h.one, fun i hi => ?_, h.key, fun k' hk' => ?_⟩
  · unfold addW
    by_cases hij : i = j
    · subst hij
      rw [hk, if_pos (sameK_self k), ← hk, ← h.wt i hi]
      have : i < Ws.length := by rw [← h.len]; exact hi
      simp [List.getD, this]
    · have hn : sameK k (Ks.getD i ByteArray.empty) = false := by
        cases hs : sameK k (Ks.getD i ByteArray.empty) with
        | false => rfl
        | true => exact absurd (h.one i j hi hj (by rw [hk]; exact ((sameK_iff _ _).1 hs).symm)) hij
      rw [if_neg (by rw [hn]; simp), Int.add_zero, ← h.wt i hi]
      simp [List.getD, List.getElem?_set_ne (Ne.symm hij)]
  · unfold addW
    have hn : sameK k k' = false := by
      cases hs : sameK k k' with
      | false => rfl
      | true => exact absurd (hk.trans ((sameK_iff _ _).1 hs)) (hk' j hj)
    rw [if_neg (by rw [hn]; simp), h.non k' hk']
    rfl
theorem getD_snocS (Ks : List ByteArray) (k : ByteArray) (j : Nat) : (Ks ++ [k]).getD j ByteArray.empty = if j = Ks.length then k else Ks.getD j ByteArray.empty := by
  by_cases h : j < Ks.length
  · rw [if_neg (by omega)]; simp [List.getD, List.getElem?_append_left h]
  · by_cases h2 : j = Ks.length
    · subst h2; rw [if_pos rfl]; simp [List.getD]
    · rw [if_neg h2]
      simp [List.getD, List.getElem?_append, h, List.getElem?_eq_none (show Ks.length ≤ j by omega), show ¬ (j - Ks.length = 0) by omega, List.getElem?_eq_none (show [k].length ≤ j - Ks.length by simp; omega)]
theorem KW.new {f : ByteArray → Int} {Ks : List ByteArray} {Ws : List Int} (h : KW f Ks Ws) {k : ByteArray} (hk : ∀ j, j < Ks.length → Ks.getD j ByteArray.empty ≠ k) (h1 : keyB (byt k) = true) (h2 : k.size ≤ maxLen) (x : Int) : KW (addW f k x) (Ks ++ [k]) ((Ws ++ [0]).set Ks.length (0 + x)) := by
  have hl := h.len
  refine ⟨by simp [hl], fun i j hi hj he => ?_, fun i hi => ?_, fun j hj => ?_, fun k' hk' => ?_⟩
  · rw [getD_snocS, getD_snocS] at he
    simp only [List.length_append, List.length_singleton] at hi hj
    by_cases hi2 : i = Ks.length
    · by_cases hj2 : j = Ks.length
      · omega
      · rw [if_pos hi2, if_neg hj2] at he
        exact absurd he.symm (hk j (by omega))
    · by_cases hj2 : j = Ks.length
      · rw [if_neg hi2, if_pos hj2] at he
        exact absurd he (hk i (by omega))
      · rw [if_neg hi2, if_neg hj2] at he
        exact h.one i j (by omega) (by omega) he
  · rw [getD_snocS]
    simp only [List.length_append, List.length_singleton] at hi
    unfold addW
    by_cases hi2 : i = Ks.length
    · rw [if_pos hi2, if_pos (sameK_self k), h.non k hk]
      subst hi2
      simp [List.getD, hl]
    · have hi3 : i < Ks.length := by omega
      rw [if_neg hi2]
      have hn : sameK k (Ks.getD i ByteArray.empty) = false := by
        cases hs : sameK k (Ks.getD i ByteArray.empty) with
        | false => rfl
        | true => exact absurd ((sameK_iff _ _).1 hs).symm (hk i hi3)
      rw [if_neg (by rw [hn]; simp), Int.add_zero, ← h.wt i hi3]
      have : i < Ws.length := by omega
      simp [List.getD, List.getElem?_set_ne (Ne.symm hi2), List.getElem?_append_left this]
  · rw [getD_snocS]
    split
    · exact ⟨h1, h2⟩
    · rename_i hne
      exact h.key j (by simp only [List.length_append, List.length_singleton] at hj; omega)
  · unfold addW
    have hn : sameK k k' = false := by
      cases hs : sameK k k' with
      | false => rfl
      | true =>
        have := hk' Ks.length (by simp)
        rw [getD_snocS, if_pos rfl] at this
        exact absurd ((sameK_iff _ _).1 hs) this
    rw [if_neg (by rw [hn]; simp), h.non k' (fun j hj => by have := hk' j (by simp; omega); rwa [getD_snocS, if_neg (by omega)] at this)]
    rfl
end Go.Proofs.Ytcmekpdgikploaa
