/- The reference's Hold and Release of pages. -/
import Derived.Test.YtmnahnmkffndlaaRfS
namespace Go.Proofs.Ytmnahnmkffndlaa
open Go.RowKit Go.Maps
set_option linter.unusedVariables false
set_option linter.unusedSimpArgs false
theorem results_cell_tmp2 {fn : Func} {p u z : Tmp} {ty : TypeId} (h : fn.results = #[.cell p ty, .tmp u, .tmp z]) (tmps : Array Value) (P : Program) (w : World) :
    (results fn tmps).run P w =
      ((asAddr (tmps.getD p undef)).run P w).andThen fun a w₁ => ((loadVar ty a).run P w₁).andThen fun v w₂ => .ok (.tuple #[v, tmps.getD u undef, tmps.getD z undef]) w₂ := by
  simp only [results, h]
  simp [Sem.run_bind, Result.andThen]
theorem ret_row3 {P : Program} {a : Act} {w : World} {fn : Func} {R : Ending → World → Prop} {p u z : Tmp} {T : TypeId} (h : fn.results = #[.cell p T, .tmp u, .tmp z]) {g : Nat} {A : Array Value} {x y : Value} (hp : a.tmps.getD p undef = .pointer (some ⟨g, 0, none⟩)) (hx : a.tmps.getD u undef = x) (hy : a.tmps.getD z undef = y) (hd : a.defers = []) (hc : RowAt g A w) {d : TypeDesc} (hu : P.underlying T = some d) (hr : d.isRow = true) (hi : (P.info? T).map (·.size) = some A.size) (hR : R (.returned (.tuple #[.agg A, x, y])) w) : bodyPost P fn R .ret a w := by
  obtain ⟨t, ht⟩ := hc
  refine bodyPost_ret (v := .tuple #[.agg A, x, y]) ?_ hd hR
  have hl := run_loadVar_row (P := P) w g t T A (0, 0) d ht hu (by cases d <;> simp_all) hi
  rw [results_cell_tmp2 h, hp, hx, hy]
  simp only [asAddr, Sem.run_pure, Result.andThen_ok, hl]
theorem inf_ra : (Try.prog.info? 29).map (·.size) = some 2 := by kernel_rfl
theorem ne_pra : 54 ≠ 29 := by decide
theorem ne_8ra : 5 ≠ 29 := by decide
/-- Block g holds this row of type T. -/
def TyAt (g : Nat) (A : Array Value) (T : TypeId) (w : World) : Prop := w.heap[g]? = some (.cells A T (0, 0))
theorem TyAt.row {g : Nat} {A : Array Value} {T : TypeId} {w : World} (h : TyAt g A T w) : RowAt g A w := ⟨T, h⟩
theorem TyAt.lt {g : Nat} {A : Array Value} {T : TypeId} {w : World} (h : TyAt g A T w) : g < w.heap.size := h.row.lt
theorem TyAt.below {g B : Nat} {A : Array Value} {T : TypeId} {w w' : World} (h : TyAt g A T w) (hb : Below B w w') (hg : g < B) : TyAt g A T w' := (hb.block g hg).trans h
theorem TyAt.go {g : Nat} {A : Array Value} {T : TypeId} {w w' : World} (h : TyAt g A T w) (hb : Below w.heap.size w w') : TyAt g A T w' := h.below hb h.lt
theorem TyAt.new (w : World) (A : Array Value) (T : TypeId) : TyAt w.heap.size A T (w.alloc (.cells A T)) := heap_alloc_new w _
theorem TyAt.new1 (w : World) (o : Obj) (A : Array Value) (T : TypeId) : TyAt (w.heap.size + 1) A T ((w.alloc o).alloc (.cells A T)) := by
  have := heap_alloc_new (w.alloc o) (.cells A T)
  simpa [TyAt] using this
theorem TyAt.set1 {g : Nat} {A : Array Value} {T : TypeId} {w : World} (h : TyAt g A T w) (j : Nat) (v : Value) : TyAt g (A.setIfInBounds j v) T (w.setCell ⟨g, j, none⟩ v) := heap_setCell_same w g j A T v h
theorem TyAt.kpt {g : Nat} {A : Array Value} {T T' : TypeId} {w : World} (h : TyAt g A T' w) (hT : T ≠ T') (j : Nat) (v : Value) : KpT T w (w.setCell ⟨g, j, none⟩ v) := KpT.row hT h (oth_cell g j w v)
/-- A block of another type keeps a typed row. -/
theorem KpT.ty {g : Nat} {A : Array Value} {T : TypeId} {w w' : World} (hk : KpT T w w') (h : TyAt g A T w) : TyAt g A T w' := (hk g A h).trans h
/-- What the store of a whole arena leaves. -/
theorem ra_fin {g : Nat} {x y : Value} {w : World} (h : TyAt g #[x, y] 29 w) (u v : Value) :
    RowAt g #[u, v] ((w.setCell ⟨g, 0, none⟩ u).setCell ⟨g, 1, none⟩ v) ∧ ∀ T, T ≠ 29 → KpT T w ((w.setCell ⟨g, 0, none⟩ u).setCell ⟨g, 1, none⟩ v) := by
  have h1 := h.set1 0 u
  have h2 := h1.set1 1 v
  refine ⟨?_, fun T hT => (h.kpt hT 0 u).trans (h1.kpt hT 1 v)⟩
  have e : ((#[x, y] : Array Value).setIfInBounds 0 u).setIfInBounds 1 v = #[u, v] := by simp
  rw [e] at h2
  exact h2.row
theorem OwnPM.kp_store {B g n cap : Nat} {M : List PM} {w : World} (h : OwnPM B M (.slice (some ⟨g, 0, none⟩) n cap) w) {T : TypeId} (hT : T ≠ 54) (j : Nat) (u : Value) : KpT T w (w.setCell ⟨g, j, none⟩ u) := by
  rcases h.2.2 with ⟨he, _⟩ | ⟨g', cap', cur, he, _, hg, _⟩
  · cases he
  · simp only [Value.slice.injEq, Option.some.injEq, Addr.mk.injEq] at he
    obtain ⟨⟨rfl, _⟩, _⟩ := he
    exact KpT.row hT hg (oth_cell g j w u)
theorem OwnPM.ge {B : Nat} {L : List PM} {g n cap : Nat} {w : World} (h : OwnPM B L (.slice (some ⟨g, 0, none⟩) n cap) w) : B ≤ g := by
  rcases h.2.2 with ⟨he, _⟩ | ⟨g', cap', cur, he, hb, _⟩
  · cases he
  · simp only [Value.slice.injEq, Option.some.injEq, Addr.mk.injEq] at he
    obtain ⟨⟨rfl, _⟩, _⟩ := he
    exact hb
theorem setP_set : ∀ {L : List Pg} {m : Int} {j : Nat} {q : Pg}, AscP m L → j < L.length → (L.getD j Pg.z).n = q.n → setP L q = L.set j q
  | [], _, _, _, _, h, _ => by simp at h
  | p :: L, m, 0, q, ha, _, hn => by
    have e : p.n = q.n := hn
    rw [setP_cons, if_pos e, List.set_cons_zero]
    congr 1
    unfold setP
    rw [List.map_congr_left (g := id) (fun x hx => by
      have := ha.2.low x hx
      simp only [id]
      rw [if_neg (by omega)]), List.map_id]
  | p :: L, m, j + 1, q, ha, hj, hn => by
    have hj' : j < L.length := by simp at hj; omega
    have hn' : (L.getD j Pg.z).n = q.n := by simpa [List.getD] using hn
    have hlow := ha.2.low (L.getD j Pg.z) (by simp [List.getD, hj'])
    rw [setP_cons, if_neg (by omega), List.set_cons_succ, setP_set ha.2 hj' hn']
theorem delP_split : ∀ {L : List Pg} {m : Int} {j : Nat} {k : Int}, AscP m L → j < L.length → (L.getD j Pg.z).n = k → delP L k = L.take j ++ L.drop (j + 1)
  | [], _, _, _, _, h, _ => by simp at h
  | p :: L, m, 0, k, ha, _, hn => by
    have e : p.n = k := hn
    rw [delP_cons, if_pos e]
    simp only [List.take_zero, List.nil_append, List.drop_succ_cons, List.drop_zero]
    exact delP_none fun x hx => by have := ha.2.low x hx; omega
  | p :: L, m, j + 1, k, ha, hj, hn => by
    have hj' : j < L.length := by simp at hj; omega
    have hn' : (L.getD j Pg.z).n = k := by simpa [List.getD] using hn
    have hlow := ha.2.low (L.getD j Pg.z) (by simp [List.getD, hj'])
    rw [delP_cons, if_neg (by omega), delP_split ha.2 hj' hn']
    rfl
theorem PmAt.set {B : Nat} : ∀ {M : List PM} {L : List Pg} {w : World} {j : Nat} {m : PM} {p : Pg}, PmAt B M L w → (m.n = p.n ∧ m.r = p.r ∧ Own B p.d m.s w) → PmAt B (M.set j m) (L.set j p) w
  | [], [], _, _, _, _, _, _ => trivial
  | x :: M, y :: L, w, 0, m, p, h, hm => ⟨hm, h.2⟩
  | x :: M, y :: L, w, j + 1, m, p, h, hm => ⟨h.1, h.2.set hm⟩
  | [], p :: L, w, _, _, _, h, _ => h.elim
  | m :: M, [], w, _, _, _, h, _ => h.elim
set_option maxRecDepth 100000 in
theorem rhold_none (M : List PM) (L : List Pg) (c k m : Int) (v : Value) (w : World) (hv : OwnPM 0 M v w) (hp : PmAt 0 M L w) (ha : AscP m L) (hL : L.length ≤ 1000000) (hk : lookP L k = none) :
    Calls Try.prog 12 #[.agg #[.int .i64 c, v], .int .i64 k] w fun e w' => e = .returned (.tuple #[.agg #[.int .i64 c, v], .int .i64 8]) ∧ Below w.heap.size w w' := by
  have hi := index_any M L c k m v ((w.alloc (.cells #[.int .i64 c, v] 29)).alloc (.cells #[.int .i64 0, .slice none 0 0] 29)) ((hv.alloc _).alloc _) (hp.kpb (KpB.below (b2 _ _))) ha hL
  obtain ⟨a, cap, rfl⟩ := hv.rd.shape
  clear hv hp ha
  go_enter Try.func12, Try.ntmps12
  go_wp2_with (go_at_call 23; refine hi.mono ?_; rintro e w2 ⟨i, rfl, hpos, hb2⟩; obtain rfl := hpos.none hk; have r2 := (RowAt.new w #[.int .i64 c, .slice a M.length cap] 29).go ((Go.Proofs.Ytmnahnmkffndlaa.b1 _).trans (hb2.mono (by simp))); have r3 := (TyAt.new1 w (.cells #[.int .i64 c, .slice a M.length cap] 29) #[.int .i64 0, .slice none 0 0] 29).below hb2 (by simp); have k0 := r2.cell (j := 0) rfl; have k1 := r2.cell (j := 1) rfl; have m0 := r3.row.cell (j := 0) rfl; have m1 := r3.row.cell (j := 1) rfl; have o0 := r3.row.open_ 0; have o1 := r3.row.open_ 1; have lt2 := r2.lt; have lt3 := r3.lt; have B2 := Lib.hid (bgo (b2 _ _) hb2); have R3 := Lib.hid r3; clear hpos hb2 r2 r3)
  exact ret_row2 rfl rfl rfl rfl (ra_fin R3.out _ _).1 Try.underlying29 rfl inf_ra ⟨rfl, bset (bset B2.out _ _ _ (by omega)) _ _ _ (by omega)⟩
end Go.Proofs.Ytmnahnmkffndlaa
