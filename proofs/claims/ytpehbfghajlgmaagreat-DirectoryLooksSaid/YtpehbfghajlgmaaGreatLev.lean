/- Rows of slices; levels (slices of slices of strings) of the call's own, and such as can be read. -/
import Derived.Test.YtpehbfghajlgmaaGreatStrRow
import Derived.Test.YtpehbfghajlgmaaGreatBel
import Derived.OneCell
import Derived.Deep.RegionLaw
namespace Go.Proofs.YtpehbfghajlgmaaGreat
open Go.RowKit
set_option linter.unusedVariables false
set_option linter.unusedSimpArgs false
/-- The block of v' is that of v, or new. -/
def Fr (v v' : Value) (w : World) : Prop := v'.ownBlock = v.ownBlock ∨ v'.ownBlock = some w.heap.size
section
variable {P : Program} (w : World)
theorem run_own_srcF (base : Nat) (t tx ty e : TypeId) (i : TypeInfo) (z : Value) (size bytes : Nat) (ht : P.underlying t = some (.slice e)) (hi : P.info? e = some i) (hz : i.zero = some z)
    (hsize : i.size = size) (hby : i.bytes = bytes) (hzs : z.cells.size = size) (hsz : 0 < size)
    (v : Value) (n : Nat) (xs : List Value) (hown : w.ownsRow base e size v n xs) (x : Value) (m : Nat) (news : List Value) (hs : Src P size tx x m news w)
    (h63 : n + m ≤ maxLen) (hbytes : (n + m) * bytes ≤ 140737488355328) (hbase : base ≤ w.heap.size) :
    ∃ v' w', (Builtin.append_ #[t, tx] ty #[v, x]).run P w = .ok v' w' ∧ w'.ownsRow base e size v' (n + m) (xs ++ news) ∧ w.grownBy w' v.ownBlock ∧ Fr v v' w := by
  subst hsize
  subst hby
  have hl := hs.newsLen
  have hsmall : ((n + m : Nat) : Int) ≤ 9223372036854775807 := by simp only [maxLen] at h63; omega
  have hlen : (xs ++ news).length = (n + m) * i.size := by rw [List.length_append, hown.1, hl, Nat.add_mul]
  have grown : ∀ (old : Nat), old < n + m → ∀ (row : Option Nat),
      (w.drew.alloc (.cells ((xs ++ news).toArray ++ Builtin.zeroCells z.cells (grownCap w (n + m) old e - (n + m))) e)).ownsRow base e i.size
        (.slice (some ⟨w.heap.size, 0, none⟩) (n + m) (grownCap w (n + m) old e)) (n + m) (xs ++ news) ∧
      w.grownBy (w.drew.alloc (.cells ((xs ++ news).toArray ++ Builtin.zeroCells z.cells (grownCap w (n + m) old e - (n + m))) e)) row := by
    intro old ho row
    have hge := grownCap_ge w (n + m) old e
    have hcm : grownCap w (n + m) old e ≤ maxLen := grownCap_le_maxLen w (n + m) old e h63
    refine ⟨⟨hlen, .inr ⟨w.heap.size, _, _, rfl, hbase, Go.heap_alloc_new w.drew _, hge, hcm, ?_, ?_⟩⟩, ⟨rfl, rfl, rfl, by simp, fun k hk _ => Go.heap_alloc_old w.drew _ hk⟩⟩
    · rw [Array.size_append, List.size_toArray, size_zeroCells, hzs, hlen, ← Nat.add_mul]
      congr 1
      omega
    · rw [Array.toList_append]
      rw [← hlen]
      exact List.take_left
  rcases hown.2 with ⟨rfl, rfl⟩ | ⟨g, cap, cur, rfl, hbg, hg, hnc, hcm, hcs, htake⟩
  · have hx : xs = [] := List.eq_nil_of_length_eq_zero (by simpa using hown.1)
    subst hx
    by_cases hm : m = 0
    · subst hm
      have hn : news = [] := List.eq_nil_of_length_eq_zero (by simpa using hl)
      subst hn
      refine ⟨.slice none 0 0, w, ?_, World.ownsRow_nil w base e i.size, ⟨rfl, rfl, rfl, Nat.le_refl _, fun _ _ _ => rfl⟩, .inl rfl⟩
      rcases hs.kind with ⟨e', hk⟩ | hk <;> simp [Builtin.append_, run_underlying ht, run_underlying hk, sizeOf, typeInfo, hi, hs.len, hs.cells, loadCells, loadCellsFrom, storeCells]
    · have hr := run_append_grow_src (P := P) w t tx ty e i z ht hi hz none 0 0 [] (run_firstCells_none w.drew i.size 0 0 0) x m news hs (by omega) hsmall (growslice_fits (by omega) hbytes)
      have hgr := grown 0 (by omega) (Value.ownBlock (.slice none 0 0))
      exact ⟨_, _, hr, hgr.1, hgr.2, .inr rfl⟩
  · by_cases hroom : n + m ≤ cap
    · have hfit : n * i.size + news.length ≤ cur.size := by rw [hl, hcs, ← Nat.add_mul]; exact Nat.mul_le_mul_right _ hroom
      have hr := run_own_room (P := P) w t tx ty e i ht hi g n cap cur hg x m news hs hroom hfit
      refine ⟨_, _, hr, ⟨hlen, .inr ⟨g, cap, _, rfl, hbg, setRow_heap w g cur _ e _ hg, hroom, hcm, ?_, ?_⟩⟩, ⟨rfl, rfl, rfl, by simp, fun k _ hk => setRow_other w g k _ (fun e => hk (by simp [Value.ownBlock, e]))⟩, .inl rfl⟩
      · simp only [List.size_toArray, List.length_append, List.length_take, List.length_drop, Array.length_toList]
        omega
      · rw [htake, ← hlen]
        exact List.take_left
    · have holds : ∀ j u, xs[j]? = some u → w.drew.cell? ((⟨g, 0, none⟩ : Addr).add j) = some u := hown.cells (g := g) rfl
      have hr := run_append_grow_src (P := P) w t tx ty e i z ht hi hz (some ⟨g, 0, none⟩) n cap xs (run_firstCells_some w.drew i.size n ⟨g, 0, none⟩ n cap xs hown.1 holds) x m news hs (by omega) hsmall (growslice_fits (by omega) hbytes)
      have hgr := grown cap (by omega) (Value.ownBlock (.slice (some ⟨g, 0, none⟩) n cap))
      exact ⟨_, _, hr, hgr.1, hgr.2, .inr rfl⟩
end
theorem row_apart {w : World} {B B' : Nat} {t t' : TypeId} {m m' : Nat} {v v' : Value} {n n' : Nat} {c c' : List Value} (h : w.ownsRow B t m v n c) (h' : w.ownsRow B' t' m' v' n' c') (ht : t ≠ t') {g : Nat} (hg : v.ownBlock = some g) : v'.ownBlock ≠ some g := by
  intro e
  rcases h.2 with ⟨rfl, _⟩ | ⟨g1, cap, cur, rfl, _, hc, _⟩
  · cases hg
  · injection hg with hg
    have hg : g1 = g := hg
    subst hg
    rcases h'.2 with ⟨rfl, _⟩ | ⟨g2, cap2, cur2, rfl, _, hc2, _⟩
    · cases e
    · injection e with e
      have e : g2 = g1 := e
      subst e
      rw [hc] at hc2
      injection hc2 with hc2
      injection hc2 with _ h3 _
      exact ht h3
theorem row_keep {w w' : World} {B : Nat} {t : TypeId} {m : Nat} {v : Value} {n : Nat} {c : List Value} (h : w.ownsRow B t m v n c) (hb : ∀ g, g < w.heap.size → v.ownBlock = some g → w'.heap[g]? = w.heap[g]?) : w'.ownsRow B t m v n c := by
  refine ⟨h.1, ?_⟩
  rcases h.2 with h2 | ⟨g1, cap, cur, rfl, h3, hc, r⟩
  · exact .inl h2
  · exact .inr ⟨g1, cap, cur, rfl, h3, (hb g1 (Array.getElem?_eq_some_iff.1 hc).1 rfl).trans hc, r⟩
/-- Just the own row of v has turned. -/
def Lone (v : Value) (w w' : World) : Prop := w.heap.size ≤ w'.heap.size ∧ ∀ g, g < w.heap.size → v.ownBlock ≠ some g → w'.heap[g]? = w.heap[g]?
theorem row_lone {w w' : World} {B B' : Nat} {t t' : TypeId} {m m' : Nat} {v v' : Value} {n n' : Nat} {c c' : List Value} (h : w.ownsRow B t m v n c) (h' : w.ownsRow B' t' m' v' n' c') (ht : t ≠ t') (hl : Lone v' w w') : w'.ownsRow B t m v n c :=
  row_keep h (fun g hg e => hl.2 g hg (row_apart h h' ht e))
theorem Lone.of {v : Value} {w w' : World} (h : Below w.heap.size w w') : Lone v w w' := ⟨h.size, fun g hg _ => h.block g hg⟩
theorem Lone.grown {v : Value} {w w' : World} (h : w.grownBy w' v.ownBlock) : Lone v w w' := ⟨h.size, fun g hg hne => h.block g hg (Ne.symm hne)⟩
theorem Lone.size {v : Value} {w w' : World} (h : Lone v w w') : w.heap.size ≤ w'.heap.size := h.1
theorem info_sl : (Tryz.prog.info? 44).map (fun i => (i.zero, i.size, i.bytes)) = some (some (.slice none 0 0), 1, 24) := by kernel_rfl
abbrev nilS : Value := .slice none 0 0
def One (us : List Value) : Prop := ∀ u ∈ us, u.oneCell' = true
theorem One.app {us vs : List Value} (h : One us) (k : One vs) : One (us ++ vs) := fun u hu => (List.mem_append.1 hu).elim (h u) (k u)
/-- A row of slices of the call's own. -/
def OwnV (B : Nat) (us : List Value) (v : Value) (w : World) : Prop := One us ∧ w.ownsRow B 44 1 v us.length us
/-- A row of slices that can be read. -/
def RdV (us : List Value) (v : Value) (w : World) : Prop :=
  One us ∧ ∃ a cap, v = .slice a us.length cap ∧ us.length ≤ cap ∧ cap ≤ maxLen ∧ (0 < us.length → ∃ b off, a = some ⟨b, off, none⟩ ∧ b < w.heap.size ∧ ∀ j, j < us.length → w.cell? ⟨b, off + j, none⟩ = some (us.getD j nilS))
theorem at_getD {us : List Value} {j : Nat} (h : j < us.length) : us[j]? = some (us.getD j nilS) := by simp [List.getD, h]
theorem RdV.below {us : List Value} {v : Value} {w w' : World} (h : RdV us v w) (hb : Below w.heap.size w w') : RdV us v w' := by
  obtain ⟨h0, a, cap, rfl, h1, h2, h3⟩ := h
  refine ⟨h0, a, cap, rfl, h1, h2, fun hp => ?_⟩
  obtain ⟨b, off, rfl, hlt, hc⟩ := h3 hp
  exact ⟨b, off, rfl, Nat.lt_of_lt_of_le hlt hb.size, fun j hj => (hb.cell (p := ⟨b, off + j, none⟩) hlt).trans (hc j hj)⟩
theorem RdV.shape {us : List Value} {v : Value} {w : World} (h : RdV us v w) : ∃ a cap, v = .slice a us.length cap := by
  obtain ⟨_, a, cap, rfl, _⟩ := h
  exact ⟨a, cap, rfl⟩
theorem OwnV.rd {B : Nat} {us : List Value} {v : Value} {w : World} (h : OwnV B us v w) : RdV us v w := by
  obtain ⟨hy, ho⟩ := h
  have hl := World.ownsRow.lt ho
  refine ⟨hy, ?_⟩
  rcases ho.2 with ⟨rfl, hn⟩ | ⟨g, cap, cur, rfl, hb, _, h1, h2, _⟩
  · exact ⟨none, 0, by rw [hn], by omega, by simp [maxLen], fun hp => by omega⟩
  · exact ⟨some ⟨g, 0, none⟩, cap, rfl, h1, h2, fun hp => ⟨g, 0, rfl, (hl g rfl).2, fun j hj => by
      rw [Nat.zero_add]; exact (World.ownsRow.cellAt ho j (by omega)).trans (at_getD hj)⟩⟩
theorem OwnV.mono {B B' : Nat} {us : List Value} {v : Value} {w : World} (h : OwnV B us v w) (hB : B' ≤ B) : OwnV B' us v w := by
  obtain ⟨hy, h1, h2⟩ := h
  refine ⟨hy, h1, ?_⟩
  rcases h2 with h2 | ⟨g, cap, cur, rfl, hb, r⟩
  · exact .inl h2
  · exact .inr ⟨g, cap, cur, rfl, Nat.le_trans hB hb, r⟩
theorem OwnV.keep {B : Nat} {us : List Value} {v : Value} {w w' : World} (h : OwnV B us v w) (hb : ∀ g, g < w.heap.size → v.ownBlock = some g → w'.heap[g]? = w.heap[g]?) : OwnV B us v w' := ⟨h.1, row_keep h.2 hb⟩
theorem OwnV.below {B : Nat} {us : List Value} {v : Value} {w w' : World} (h : OwnV B us v w) (hb : Below w.heap.size w w') : OwnV B us v w' := h.keep (fun g hg _ => hb.block g hg)
theorem OwnV.alloc {B : Nat} {us : List Value} {v : Value} {w : World} (h : OwnV B us v w) (o : Obj) : OwnV B us v (w.alloc o) := h.below (b1 o)
theorem OwnV.empty (B : Nat) (w : World) : OwnV B [] (.slice none 0 0) w := ⟨fun _ h => (by cases h), World.ownsRow_nil _ _ _ _⟩
theorem OwnV.one {u : Value} (hu : u.oneCell' = true) (w : World) : OwnV w.heap.size [u] (.slice (some ⟨w.heap.size, 0, none⟩) 1 1) (w.alloc (.cells #[u] 44)) :=
  ⟨fun x hx => by rw [List.mem_singleton] at hx; rw [hx]; exact hu, rfl, .inr ⟨w.heap.size, 1, #[u], rfl, Nat.le_refl _, Go.heap_alloc_new w _, Nat.le_refl _, by decide, rfl, rfl⟩⟩
theorem OwnS.keep {B : Nat} {L : List ByteArray} {v : Value} {w w' : World} (h : OwnS B L v w) (hb : ∀ g, g < w.heap.size → v.ownBlock = some g → w'.heap[g]? = w.heap[g]?) : OwnS B L v w' := row_keep h hb
theorem RdS.shape {L : List ByteArray} {v : Value} {w : World} (h : RdS L v w) : ∃ a cap, v = .slice a L.length cap := by
  obtain ⟨a, cap, rfl, _⟩ := h
  exact ⟨a, cap, rfl⟩
theorem OwnV.lt {B : Nat} {us : List Value} {v : Value} {w : World} (h : OwnV B us v w) {g : Nat} (hg : v.ownBlock = some g) : B ≤ g ∧ g < w.heap.size := World.ownsRow.lt h.2 g hg
theorem OwnS.lt {B : Nat} {L : List ByteArray} {v : Value} {w : World} (h : OwnS B L v w) {g : Nat} (hg : v.ownBlock = some g) : B ≤ g ∧ g < w.heap.size := World.ownsRow.lt h g hg
theorem OwnS.vapart {B B' : Nat} {L : List ByteArray} {us : List Value} {u v : Value} {w : World} (h : OwnS B L u w) (ho : OwnV B' us v w) {g : Nat} (hg : u.ownBlock = some g) : v.ownBlock ≠ some g := row_apart h ho.2 (by decide) hg
/-- An own row of slices with an element: its cells, and what a store leaves. -/
theorem OwnV.cells {B : Nat} {us : List Value} {a : Option Addr} {n cap : Nat} {w : World} (h : OwnV B us (.slice a n cap) w) (hp : 0 < us.length) :
    ∃ g, a = some ⟨g, 0, none⟩ ∧ n = us.length ∧ B ≤ g ∧ g < w.heap.size ∧ (∀ j, j < us.length → w.cell? ⟨g, j, none⟩ = some (us.getD j nilS) ∧ w.frozen? ⟨g, j, none⟩ = false) := by
  obtain ⟨hy, ho⟩ := h
  have h2 := ho.2
  rcases h2 with ⟨he, hn⟩ | ⟨g, cap', cur, he, hb, _⟩
  · omega
  · simp only [Value.slice.injEq] at he
    obtain ⟨rfl, hnl, rfl⟩ := he
    subst hnl
    exact ⟨g, rfl, rfl, hb, (World.ownsRow.lt ho g rfl).2, fun j hj => ⟨(World.ownsRow.cellAt ho j (by omega)).trans (at_getD hj), World.ownsRow.frozenAt ho j⟩⟩
theorem OwnV.put {B : Nat} {us : List Value} {g n cap : Nat} {w : World} (h : OwnV B us (.slice (some ⟨g, 0, none⟩) n cap) w) (hp : 0 < us.length) (j : Nat) {u : Value} (hu : u.oneCell' = true) : OwnV B (us.set j u) (.slice (some ⟨g, 0, none⟩) n cap) (w.setCell ⟨g, j, none⟩ u) := by
  obtain ⟨g', he, hn, -, -, -⟩ := h.cells hp
  subst hn
  refine ⟨fun x hx => ?_, ?_⟩
  · rcases List.mem_or_eq_of_mem_set hx with h' | rfl
    · exact h.1 x h'
    · exact hu
  · rw [List.length_set]
    exact (World.ownsRow.stored h.2 j u).1
/-- What may be appended: the slices ms. -/
def FromV (ms : List Value) (tx : TypeId) (u : Value) (w : World) : Prop := One ms ∧ Src Tryz.prog 1 tx u ms.length ms w
section
variable {w : World}
/-- append, onto strings of the call's own: just its own row turns, and where it lies afterwards. -/
theorem wp_appF {ops : Array Oper} {rest : List Oper} {o : Oper} {a : Act} {Q : Exit → Act → World → Prop} (hgd : o.guard = none) (s x : Operand) (tx : TypeId)
    (ho : o.op = .call { callee := .builtin .append, args := #[s, x], argTypes := #[44, tx] }) (B : Nat) (L M : List ByteArray) (v u : Value) (hs : a.eval s = v) (hx : a.eval x = u)
    (hown : OwnS B L v w) (hsrc : FromS M tx u w) (hB : B ≤ w.heap.size) (hn : L.length + M.length ≤ 1099511627776)
    (h : ∀ v' w', OwnS B (L ++ M) v' w' → Below B w w' → Lone v w w' → Fr v v' w → wpList Tryz.prog ops Q rest (a.put o.dst v') w') : wpList Tryz.prog ops Q (o :: rest) a w :=
  wpList_plain hgd fun _ hK => by
    obtain ⟨i0, hi, hz0, hz1, hz2⟩ := info_parts info_str
    obtain ⟨v', w', hr, h1, h2, h3⟩ := run_own_srcF (P := Tryz.prog) w B 44 tx o.type 9 i0 (.string ByteArray.empty) 1 16 Tryz.underlying44 hi hz0 hz1 hz2 rfl (by decide) v L.length (cellsS L) hown u M.length (cellsS M) hsrc (by unfold maxLen; omega) (by omega) hB
    unfold Oper.wp execOp
    simp only [ho, resolve, invoke, builtin, Sem.run_bind, Sem.run_pure, Result.andThen_ok, List.map_toArray, List.map_cons, List.map_nil, hs, hx, hr]
    refine hK _ _ (h v' w' ?_ ((Below.refl _ _).grown h2 hB (fun k hk => (World.ownsRow.lt hown k hk).1)) (Lone.grown h2) h3)
    unfold OwnS
    rw [List.length_append, cellsS_app]
    exact h1
theorem step_appF {ops : Array Oper} {o : Oper} {a : Act} {K : Act → World → Prop} {Q : Exit → Act → World → Prop} {E : Prop} (hgd : o.guard = none) (s x : Operand) (tx : TypeId)
    (ho : o.op = .call { callee := .builtin .append, args := #[s, x], argTypes := #[44, tx] }) (B : Nat) (L M : List ByteArray) (v u : Value) (hs : a.eval s = v) (hx : a.eval x = u)
    (hown : OwnS B L v w) (hsrc : FromS M tx u w) (hB : B ≤ w.heap.size) (hn : L.length + M.length ≤ 1099511627776)
    (h : ∀ v' w', OwnS B (L ++ M) v' w' → Below B w w' → Lone v w w' → Fr v v' w → K (a.put o.dst v') w') : if Region.wanted o (yielded ops a.tmps) = true then Oper.wp Tryz.prog o a w K Q else E := by
  have hw : Region.wanted o (yielded ops a.tmps) = true := by simp [Region.wanted, hgd]
  rw [if_pos hw]
  obtain ⟨i0, hi, hz0, hz1, hz2⟩ := info_parts info_str
  obtain ⟨v', w', hr, h1, h2, h3⟩ := run_own_srcF (P := Tryz.prog) w B 44 tx o.type 9 i0 (.string ByteArray.empty) 1 16 Tryz.underlying44 hi hz0 hz1 hz2 rfl (by decide) v L.length (cellsS L) hown u M.length (cellsS M) hsrc (by unfold maxLen; omega) (by omega) hB
  unfold Oper.wp execOp
  simp only [ho, resolve, invoke, builtin, Sem.run_bind, Sem.run_pure, Result.andThen_ok, List.map_toArray, List.map_cons, List.map_nil, hs, hx, hr]
  refine h v' w' ?_ ((Below.refl _ _).grown h2 hB (fun k hk => (World.ownsRow.lt hown k hk).1)) (Lone.grown h2) h3
  unfold OwnS
  rw [List.length_append, cellsS_app]
  exact h1
end
/-- Levels that can be read: the slices us lie in the row, and each reads as its level. -/
def AllR (L : List (List ByteArray)) (us : List Value) (w : World) : Prop := us.length = L.length ∧ ∀ j, j < L.length → RdS (L.getD j []) (us.getD j nilS) w
def RdL (L : List (List ByteArray)) (v : Value) (w : World) : Prop := ∃ us, RdV us v w ∧ AllR L us w
theorem AllR.below {L : List (List ByteArray)} {us : List Value} {w w' : World} (h : AllR L us w) (hb : Below w.heap.size w w') : AllR L us w' := ⟨h.1, fun j hj => (h.2 j hj).below hb⟩
theorem RdL.below {L : List (List ByteArray)} {v : Value} {w w' : World} (h : RdL L v w) (hb : Below w.heap.size w w') : RdL L v w' := by
  obtain ⟨us, h1, h2⟩ := h
  exact ⟨us, h1.below hb, h2.below hb⟩
theorem RdL.shape {L : List (List ByteArray)} {v : Value} {w : World} (h : RdL L v w) : ∃ a cap, v = .slice a L.length cap := by
  obtain ⟨us, h1, h2⟩ := h
  rw [← h2.1]
  exact h1.shape
/-- The cell of a level, and what it reads as. -/
theorem RdL.at_ {L : List (List ByteArray)} {a : Option Addr} {n cap : Nat} {w : World} (h : RdL L (.slice a n cap) w) {k : Nat} (hk : k < L.length) :
    ∃ b off u m c, a = some ⟨b, off, none⟩ ∧ n = L.length ∧ b < w.heap.size ∧ w.cell? ⟨b, off + k, none⟩ = some (.slice u m c) ∧ RdS (L.getD k []) (.slice u m c) w ∧ m = (L.getD k []).length := by
  obtain ⟨us, ⟨-, a', cap', he, -, -, h3⟩, h4, h5⟩ := h
  simp only [Value.slice.injEq] at he
  obtain ⟨rfl, rfl, rfl⟩ := he
  obtain ⟨b, off, rfl, hb, hc⟩ := h3 (by omega)
  have hr := h5 k hk
  obtain ⟨u, c, hu⟩ := hr.shape
  have hcu := hc k (by omega)
  rw [hu] at hcu hr
  exact ⟨b, off, u, _, c, rfl, h4, hb, hcu, hr, rfl⟩
/-- Levels of the call's own: no two of the slices us lie in one block. -/
def Apart (us : List Value) : Prop := ∀ i j, i < us.length → j < us.length → i ≠ j → ∀ g, (us.getD i nilS).ownBlock = some g → (us.getD j nilS).ownBlock ≠ some g
def AllO (B : Nat) (L : List (List ByteArray)) (us : List Value) (w : World) : Prop := us.length = L.length ∧ ∀ j, j < L.length → OwnS B (L.getD j []) (us.getD j nilS) w
def OwnL (B : Nat) (L : List (List ByteArray)) (us : List Value) (v : Value) (w : World) : Prop := OwnV B us v w ∧ AllO B L us w ∧ Apart us
section
variable {B : Nat} {L : List (List ByteArray)} {us : List Value} {v : Value} {w w' : World}
theorem AllO.rd (h : AllO B L us w) : AllR L us w := ⟨h.1, fun j hj => (h.2 j hj).rd⟩
theorem OwnL.rd (h : OwnL B L us v w) : RdL L v w := ⟨us, h.1.rd, h.2.1.rd⟩
theorem OwnL.len (h : OwnL B L us v w) : us.length = L.length := h.2.1.1
theorem OwnL.below (h : OwnL B L us v w) (hb : Below w.heap.size w w') : OwnL B L us v w' := ⟨h.1.below hb, ⟨h.2.1.1, fun j hj => (h.2.1.2 j hj).below hb⟩, h.2.2⟩
theorem OwnL.mono {B' : Nat} (h : OwnL B L us v w) (hB : B' ≤ B) : OwnL B' L us v w := ⟨h.1.mono hB, ⟨h.2.1.1, fun j hj => (h.2.1.2 j hj).mono hB⟩, h.2.2⟩
theorem OwnL.empty (B : Nat) (w : World) : OwnL B [] [] (.slice none 0 0) w := ⟨OwnV.empty _ _, ⟨rfl, fun j hj => by cases hj⟩, fun i j hi => by cases hi⟩
theorem getD_rep (N j : Nat) : (List.replicate N nilS).getD j nilS = nilS := by
  simp only [List.getD, List.getElem?_replicate]
  split <;> rfl
/-- New levels, each empty. -/
theorem OwnL.made {N : Nat} (h : OwnV B (List.replicate N nilS) v w) : OwnL B (List.replicate N []) (List.replicate N nilS) v w := by
  refine ⟨h, ⟨by simp, fun j hj => ?_⟩, fun i j _ _ _ g hg => ?_⟩
  · rw [getD_rep, show (List.replicate N ([] : List ByteArray)).getD j [] = [] by simp only [List.getD, List.getElem?_replicate]; split <;> rfl]
    exact OwnS.empty _ _
  · rw [getD_rep] at hg
    cases hg
theorem OwnS.cell1 {B : Nat} {M : List ByteArray} {u : Value} {w : World} (h : OwnS B M u w) : u.oneCell' = true := by
  obtain ⟨a, c, rfl⟩ := h.rd.shape
  rfl
theorem getD_set_ne {α : Type} {l : List α} {i j : Nat} {x d : α} (h : i ≠ j) : (l.set i x).getD j d = l.getD j d := by simp [List.getD, List.getElem?_set, h]
theorem getD_set_eq {α : Type} {l : List α} {i : Nat} {x d : α} (h : i < l.length) : (l.set i x).getD i d = x := by simp [List.getD, h]
/-- The row of level j has turned alone; u is what it became. -/
theorem OwnL.turn (h : OwnL B L us v w) {j : Nat} (hj : j < L.length) {M : List ByteArray} {u : Value} (hu : OwnS B M u w') (hl : Lone (us.getD j nilS) w w') (hf : Fr (us.getD j nilS) u w) :
    OwnV B us v w' ∧ (∀ i, i < L.length → i ≠ j → OwnS B (L.getD i []) (us.getD i nilS) w') ∧ (∀ i, i < L.length → i ≠ j → ∀ g, (us.getD i nilS).ownBlock = some g → u.ownBlock ≠ some g) := by
  obtain ⟨h1, ⟨h2, h3⟩, h4⟩ := h
  refine ⟨h1.keep (fun g hg e => hl.2 g hg (fun e' => (h3 j hj).vapart h1 e' e)), fun i hi hne => (h3 i hi).keep (fun g hg e => hl.2 g hg (h4 i j (by omega) (by omega) hne g e)), fun i hi hne g hg e => ?_⟩
  rcases hf with hf | hf
  · rw [hf] at e
    exact h4 i j (by omega) (by omega) hne g hg e
  · rw [hf] at e
    have := (h3 i hi).lt hg
    simp only [Option.some.injEq] at e
    omega
/-- .. and lies in the row now. -/
theorem OwnL.set {g n cap : Nat} (h : OwnL B L us (.slice (some ⟨g, 0, none⟩) n cap) w) {j : Nat} (hj : j < L.length) {M : List ByteArray} {u : Value} (hu : OwnS B M u w') (hl : Lone (us.getD j nilS) w w') (hf : Fr (us.getD j nilS) u w) :
    OwnL B (L.set j M) (us.set j u) (.slice (some ⟨g, 0, none⟩) n cap) (w'.setCell ⟨g, j, none⟩ u) := by
  obtain ⟨t1, t2, t3⟩ := h.turn hj hu hl hf
  have hlen := h.len
  have hg : (Value.slice (some ⟨g, 0, none⟩) n cap).ownBlock = some g := rfl
  have away : ∀ {M : List ByteArray} {x : Value}, OwnS B M x w' → OwnS B M x (w'.setCell ⟨g, j, none⟩ u) := fun hx => hx.keep (fun k hk e => Below.heap_setCell _ ⟨g, j, none⟩ _ _ (fun e' => by subst e'; exact hx.vapart t1 e hg))
  refine ⟨t1.put (by omega) j hu.cell1, ⟨by rw [List.length_set, List.length_set]; exact hlen, fun i hi => ?_⟩, fun a b ha hb hne k hk => ?_⟩
  · rw [List.length_set] at hi
    by_cases hij : j = i
    · subst hij
      rw [getD_set_eq hj, getD_set_eq (by omega)]
      exact away hu
    · rw [getD_set_ne hij, getD_set_ne hij]
      exact away (t2 i hi (Ne.symm hij))
  · rw [List.length_set] at ha hb
    by_cases h1 : j = a
    · subst h1
      rw [getD_set_eq ha] at hk
      rw [getD_set_ne hne]
      exact fun e => t3 b (by omega) (Ne.symm hne) k e hk
    · rw [getD_set_ne h1] at hk
      by_cases h2 : j = b
      · subst h2
        rw [getD_set_eq hb]
        exact t3 a (by omega) hne k hk
      · rw [getD_set_ne h2]
        exact h.2.2 a b ha hb hne k hk
/-- The row of level j has turned in place. -/
theorem OwnL.inPlace (h : OwnL B L us v w) {j : Nat} (hj : j < L.length) {M : List ByteArray} (hu : OwnS B M (us.getD j nilS) w') (hl : Lone (us.getD j nilS) w w') : OwnL B (L.set j M) us v w' := by
  obtain ⟨t1, t2, t3⟩ := h.turn hj hu hl (.inl rfl)
  refine ⟨t1, ⟨by rw [List.length_set]; exact h.len, fun i hi => ?_⟩, h.2.2⟩
  rw [List.length_set] at hi
  by_cases hij : j = i
  · subst hij
    rw [getD_set_eq hj]
    exact hu
  · rw [getD_set_ne hij]
    exact t2 i hi (Ne.symm hij)
theorem getD_snoc {α : Type} {l : List α} {x d : α} {j : Nat} : (l ++ [x]).getD j d = if j < l.length then l.getD j d else if j = l.length then x else d := by
  simp only [List.getD, List.getElem?_append]
  by_cases h1 : j < l.length
  · rw [if_pos h1, if_pos h1]
  · rw [if_neg h1, if_neg h1]
    by_cases h2 : j = l.length
    · subst h2; simp
    · rw [if_neg h2, List.getElem?_eq_none (by simp; omega)]; rfl
/-- A level more: the row of slices has been appended to. -/
theorem OwnL.snoc {v' u : Value} {M : List ByteArray} (h : OwnL B L us v w) (hv : OwnV B (us ++ [u]) v' w') (hl : Lone v w w') (hu : OwnS B M u w') (hf : ∀ i, i < L.length → ∀ g, (us.getD i nilS).ownBlock = some g → u.ownBlock ≠ some g) : OwnL B (L ++ [M]) (us ++ [u]) v' w' := by
  obtain ⟨h1, ⟨h2, h3⟩, h4⟩ := h
  refine ⟨hv, ⟨by simp [h2], fun j hj => ?_⟩, fun i j hi hj hne g hg => ?_⟩
  · rw [List.length_append, List.length_singleton] at hj
    rw [getD_snoc, getD_snoc, h2]
    by_cases hjl : j < L.length
    · rw [if_pos hjl, if_pos hjl]
      exact (h3 j hjl).keep (fun g hg e => hl.2 g hg (fun e' => (h3 j hjl).vapart h1 e e'))
    · rw [if_neg hjl, if_neg hjl, if_pos (by omega), if_pos (by omega)]
      exact hu
  · rw [List.length_append, List.length_singleton] at hi hj
    rw [getD_snoc] at hg ⊢
    by_cases hi1 : i < us.length
    · rw [if_pos hi1] at hg
      by_cases hj1 : j < us.length
      · rw [if_pos hj1]
        exact h4 i j hi1 hj1 hne g hg
      · rw [if_neg hj1, if_pos (by omega)]
        exact hf i (by omega) g hg
    · rw [if_neg hi1, if_pos (by omega)] at hg
      rw [if_pos (by omega)]
      exact fun e => hf j (by omega) g e hg
end
end Go.Proofs.YtpehbfghajlgmaaGreat
