/- The contract of topk's adder.join. -/
import Derived.Test.YtcmekpdgikploaaMerN
import Derived.Test.YtcmekpdgikploaaFind9
namespace Go.Proofs.Ytcmekpdgikploaa
open Go.RowKit
set_option linter.unusedVariables false
set_option linter.unusedSimpArgs false
/-- Of the blocks that there were, block g alone has turned. -/
def One (g : Nat) (w w' : World) : Prop := Below g w w' ∧ w.heap.size ≤ w'.heap.size ∧ ∀ b, b < w.heap.size → b ≠ g → w'.heap[b]? = w.heap[b]?
theorem One.refl (g : Nat) (w : World) : One g w w := ⟨Below.refl _ _, Nat.le_refl _, fun _ _ _ => rfl⟩
theorem One.trans {g : Nat} {w u v : World} (h : One g w u) (k : One g u v) : One g w v := ⟨h.1.trans k.1, Nat.le_trans h.2.1 k.2.1, fun b hb hn => (k.2.2 b (Nat.lt_of_lt_of_le hb h.2.1) hn).trans (h.2.2 b hb hn)⟩
theorem One.of {g : Nat} {w w' : World} (h : Below w.heap.size w w') (hg : g < w.heap.size) : One g w w' := ⟨h.mono (Nat.le_of_lt hg), h.size, fun b hb _ => h.block b hb⟩
theorem One.set (g o : Nat) (w : World) (v : Value) : One g w (w.setCell ⟨g, o, none⟩ v) := ⟨(Below.refl g w).setCell (p := ⟨g, o, none⟩) (Nat.le_refl _) v, by simp, fun b _ hn => Below.heap_setCell _ ⟨g, o, none⟩ _ _ hn⟩
theorem One.below {g B : Nat} {w w' : World} (h : One g w w') (hB : B ≤ g) : Below B w w' := h.1.mono hB
theorem Fl.bd {g : Nat} {r : Bool} {w w' : World} (h : Fl g r w) (hb : Below w.heap.size w w') : Fl g r w' := h.keep (hb.block _ h.lt)
theorem At3.keep {x : Ent} {b o : Nat} {w w' : World} (h : At3 x b o w) (hb : w'.heap[b]? = w.heap[b]?) : At3 x b o w' :=
  ⟨(World.cell?_of_block (w := w) (a := ⟨b, o, none⟩) hb).trans h.1, (World.cell?_of_block (w := w) (a := ⟨b, o + 1, none⟩) hb).trans h.2.1, (World.cell?_of_block (w := w) (a := ⟨b, o + 2, none⟩) hb).trans h.2.2⟩
/-- The state of join. -/
def JS (w : World) (g : Nat) (x y : Ent) (r : Bool) (u : World) : Prop :=
  At3 x w.heap.size 0 u ∧ At3 y (w.heap.size + 1) 0 u ∧ En3 (w.heap.size + 2) u ∧ Fl g r u ∧ One g w u ∧ g < w.heap.size
theorem JS.add {w : World} {g : Nat} {x y : Ent} {r q : Bool} {u u' : World} (h : JS w g x y r u) (ho : One g u u') (hf : Fl g q u') : JS w g x y q u' := by
  obtain ⟨h1, h2, h3, h4, h5, h6⟩ := h
  have l3 := h3.lt
  exact ⟨h1.keep (ho.2.2 _ (by omega) (by omega)), h2.keep (ho.2.2 _ (by omega) (by omega)), h3.keep (ho.2.2 _ (by omega) (by omega)), hf, h5.trans ho, h6⟩
theorem JS.go {w : World} {g : Nat} {x y : Ent} {r : Bool} {u u' : World} (h : JS w g x y r u) (hb : Below u.heap.size u u') : JS w g x y r u' :=
  h.add (One.of hb h.2.2.2.1.lt) (h.2.2.2.1.bd hb)
theorem JS.new (w : World) {g : Nat} (x y : Ent) {r : Bool} (h : Fl g r w) : JS w g x y r (((w.alloc (.cells #[.string x.k, .int .i64 x.c, .int .i64 x.e] 49)).alloc (.cells #[.string y.k, .int .i64 y.c, .int .i64 y.e] 49)).alloc (.cells #[.string ⟨#[]⟩, .int .i64 0, .int .i64 0] 49)) :=
  ⟨⟨by go_simp, by go_simp, by go_simp⟩, ⟨by go_simp, by go_simp, by go_simp⟩, ⟨⟨by go_simp, by go_simp, by go_simp⟩, by go_simp, by go_simp, by go_simp⟩, h.bd (b3 _ _ _), One.of (b3 _ _ _) h.lt, h.lt⟩
theorem JS.cells {w : World} {g : Nat} {x y : Ent} {r : Bool} {u : World} (h : JS w g x y r u) :
    u.cell? ⟨w.heap.size, 0, none⟩ = some (.string x.k) ∧ u.cell? ⟨w.heap.size, 1, none⟩ = some (.int .i64 x.c) ∧ u.cell? ⟨w.heap.size, 2, none⟩ = some (.int .i64 x.e) ∧ u.cell? ⟨w.heap.size + 1, 1, none⟩ = some (.int .i64 y.c) ∧ u.cell? ⟨w.heap.size + 1, 2, none⟩ = some (.int .i64 y.e) :=
  ⟨h.1.1, h.1.2.1, h.1.2.2, h.2.1.2.1, h.2.1.2.2⟩
theorem JS.fl {w : World} {g : Nat} {x y : Ent} {r : Bool} {u : World} (h : JS w g x y r u) : Fl g r u := h.2.2.2.1
theorem JS.put {w : World} {g : Nat} {x y : Ent} {r : Bool} {u : World} (h : JS w g x y r u) (a b c : Value) {u' : World} (hu : u' = ((u.setCell ⟨w.heap.size + 1 + 1, 0, none⟩ a).setCell ⟨w.heap.size + 1 + 1, 1, none⟩ b).setCell ⟨w.heap.size + 1 + 1, 2, none⟩ c) :
    u'.cell? ⟨w.heap.size, 0, none⟩ = some (.string x.k) ∧ u'.cell? ⟨w.heap.size, 1, none⟩ = some (.int .i64 x.c) ∧ u'.cell? ⟨w.heap.size, 2, none⟩ = some (.int .i64 x.e) ∧ u'.cell? ⟨w.heap.size + 1, 1, none⟩ = some (.int .i64 y.c) ∧ u'.cell? ⟨w.heap.size + 1, 2, none⟩ = some (.int .i64 y.e) := by
  subst hu
  have hB : ∀ k, k < w.heap.size + 1 + 1 → (((u.setCell ⟨w.heap.size + 1 + 1, 0, none⟩ a).setCell ⟨w.heap.size + 1 + 1, 1, none⟩ b).setCell ⟨w.heap.size + 1 + 1, 2, none⟩ c).heap[k]? = u.heap[k]? :=
    fun k hk => (bsetB (bsetB (bsetB (Below.refl (w.heap.size + 1 + 1) u) _ _ _ (Nat.le_refl _)) _ _ _ (Nat.le_refl _)) _ _ _ (Nat.le_refl _)).block k hk
  have h1 := h.1.keep (hB _ (by omega))
  have h2 := h.2.1.keep (hB _ (by omega))
  exact ⟨h1.1, h1.2.1, h1.2.2, h2.2.1, h2.2.2⟩
theorem JS.drew {w : World} {g : Nat} {x y : Ent} {r : Bool} {u : World} (h : JS w g x y r u) : JS w g x y r u.drew := h.go (Below.refl _ _).drew
/-- The contract of add, with its memory under one name. -/
theorem padd_one (a b : Int) (g : Nat) (s : Bool) (w : World) (a0 : -9223372036854775808 ≤ a) (a1 : a ≤ 9223372036854775807) (b0 : -9223372036854775808 ≤ b) (b1 : b ≤ 9223372036854775807) (hf : Fl g s w) :
    Calls Try.prog 32 #[.pointer (some ⟨g, 0, none⟩), .int .i64 a, .int .i64 b] w fun e w' => e = .returned (.int .i64 (tS a b)) ∧ Fl g (s || tF a b) w' ∧ One g w w' := by
  refine (padd_any a b g s w a0 a1 b0 b1 hf.1 hf.2).mono ?_
  rintro e w' ⟨rfl, rfl⟩
  exact ⟨rfl, hf.set _, One.set _ _ _ _⟩
set_option maxRecDepth 100000 in
set_option maxHeartbeats 4000000 in
theorem join_any (x y : Ent) (g : Nat) (s : Bool) (w : World) (hx : x.ok) (hy : y.ok) (hf : Fl g s w) :
    Calls Try.prog 49 #[.pointer (some ⟨g, 0, none⟩), .agg #[.string x.k, .int .i64 x.c, .int .i64 x.e], .agg #[.string y.k, .int .i64 y.c, .int .i64 y.e]] w fun r w' =>
      r = .returned (.agg #[.string (joinE x y).k, .int .i64 (joinE x y).c, .int .i64 (joinE x y).e]) ∧ Fl g (s || joinF x y) w' ∧ One g w w' := by
  obtain ⟨hk, ⟨xc0, xc1⟩, xe0, xe1⟩ := hx
  obtain ⟨-, ⟨yc0, yc1⟩, ye0, ye1⟩ := hy
  have h1 := tS_bd x.c y.c
  have h2 := tS_bd x.e y.e
  have HC := Lib.hid (fun (r : Bool) (w' : World) (a : Fl g r w') => padd_one x.c y.c g r w' xc0 xc1 yc0 yc1 a)
  have HE := Lib.hid (fun (r : Bool) (w' : World) (a : Fl g r w') => padd_one x.e y.e g r w' xe0 xe1 ye0 ye1 a)
  have HN := Lib.hid (fun w => entOf_any x.k (tS x.c y.c) (tS x.e y.e) w (by omega) (by omega))
  have J0 := Lib.hid (JS.new w x y hf)
  unfold joinE joinF
  generalize entOf x.k (tS x.c y.c) (tS x.e y.e) = E at *
  clear h1 h2 hf
  go_enter Try.func49, Try.ntmps49
  go_wp2
  generalize ((w.alloc (.cells #[.string x.k, .int .i64 x.c, .int .i64 x.e] 49)).alloc (.cells #[.string y.k, .int .i64 y.c, .int .i64 y.e] 49)).alloc (.cells #[.string ⟨#[]⟩, .int .i64 0, .int .i64 0] 49) = w0 at *
  have J0d := Lib.hid J0.out.drew
  have S0 := J0d.out.cells
  go_region_held3 (fun u => u.cell? ⟨w.heap.size, 0, none⟩ = some (.string x.k) ∧ u.cell? ⟨w.heap.size, 1, none⟩ = some (.int .i64 x.c) ∧ u.cell? ⟨w.heap.size, 2, none⟩ = some (.int .i64 x.e) ∧ u.cell? ⟨w.heap.size + 1, 1, none⟩ = some (.int .i64 y.c) ∧ u.cell? ⟨w.heap.size + 1, 2, none⟩ = some (.int .i64 y.e)) (first | assumption | exact J5.out.put _ _ _ rfl) (first
    | (go_at_call 32; (with_reducible refine (HC.out _ _ J1.out.fl).mono ?_); rintro e w2 ⟨rfl, hf2, ho2⟩; have J2 := Lib.hid (J1.out.add ho2 hf2); have S2 := J2.out.cells; clear hf2 ho2)
    | (go_at_call 32; (with_reducible refine (HE.out _ _ J1.out.fl).mono ?_); rintro e w2 ⟨rfl, hf2, ho2⟩; have J2 := Lib.hid (J1.out.add ho2 hf2); have S2 := J2.out.cells; clear hf2 ho2)
    | (go_at_call 32; (with_reducible refine (HC.out _ _ J0d.out.fl).mono ?_); rintro e w1 ⟨rfl, hf1, ho1⟩; have J1 := Lib.hid (J0d.out.add ho1 hf1); have S1 := J1.out.cells; clear hf1 ho1)
    | (go_at_call 32; (with_reducible refine (HE.out _ _ J0d.out.fl).mono ?_); rintro e w1 ⟨rfl, hf1, ho1⟩; have J1 := Lib.hid (J0d.out.add ho1 hf1); have S1 := J1.out.cells; clear hf1 ho1)
    | (go_at_call 33; (with_reducible refine (HN.out _).mono ?_); rintro e w5 ⟨rfl, hb5⟩; have J5 := Lib.hid (J2.out.go hb5); obtain ⟨c0, c1, c2, c3, c4⟩ := J5.out.cells; clear S0 S1 S2; have S5 := J5.out.cells; obtain ⟨⟨q0, q1, q2⟩, f0, f1, f2⟩ := J5.out.2.2.1; clear hb5))
  rename_i hHeld
  clear hHeld
  go_wp2
  refine bodyPost_ret (v := .agg #[.string E.k, .int .i64 E.c, .int .i64 E.e]) (by simp [results, Try.results49, go_sem, *]) rfl ⟨rfl, ?_, ?_⟩
  · have h := J5.out.fl
    rw [Bool.or_assoc] at h
    have hlt := J5.out.2.2.2.2.2
    exact h.keep (by rw [Below.heap_setCell _ ⟨w.heap.size + 1 + 1, 2, none⟩ _ _ (show g ≠ _ by dsimp only; omega), Below.heap_setCell _ ⟨w.heap.size + 1 + 1, 1, none⟩ _ _ (show g ≠ _ by dsimp only; omega), Below.heap_setCell _ ⟨w.heap.size + 1 + 1, 0, none⟩ _ _ (show g ≠ _ by dsimp only; omega)])
  · have h := J5.out.2.2.2.2.1
    have hlt := J5.out.2.2.2.2.2
    have hB : Below w.heap.size w5 (((w5.setCell ⟨w.heap.size + 1 + 1, 0, none⟩ (.string E.k)).setCell ⟨w.heap.size + 1 + 1, 1, none⟩ (.int .i64 E.c)).setCell ⟨w.heap.size + 1 + 1, 2, none⟩ (.int .i64 E.e)) :=
      bsetB (bsetB (bsetB (Below.refl _ _) _ _ _ (by omega)) _ _ _ (by omega)) _ _ _ (by omega)
    exact ⟨h.1.trans (hB.mono (Nat.le_of_lt hlt)), Nat.le_trans h.2.1 hB.size, fun b hb hn => (hB.block b hb).trans (h.2.2 b hb hn)⟩
end Go.Proofs.Ytcmekpdgikploaa
