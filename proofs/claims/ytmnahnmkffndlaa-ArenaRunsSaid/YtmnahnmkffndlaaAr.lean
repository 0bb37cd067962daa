/- A map of pages by their numbers, the call's own; an arena in memory. -/
import Derived.Test.YtmnahnmkffndlaaPgL
import Derived.Test.YtmnahnmkffndlaaPgM
import Derived.Test.YtmnahnmkffndlaaStepApp
import Derived.Test.YtmnahnmkffndlaaRowG
import Derived.Maps.OwnSet
namespace Go.Proofs.Ytmnahnmkffndlaa
open Go.RowKit Go.Maps
set_option linter.unusedVariables false
set_option linter.unusedSimpArgs false
/-- A value of the map, as it stands. -/
def RV (v : Value) : Option (DataW Value × List MemPlace) := some (.held v, [])
theorem law_i64 : Keyed Try.prog 3 := int_keyed Try.underlying3
theorem zero_pg (w : World) : (zeroValue 54).run Try.prog w = .ok (.agg #[.int .i64 0, .int .i64 0, .slice none 0 0]) w := by kernel_rfl
def InI (k : Int) : Prop := -9223372036854775808 ≤ k ∧ k ≤ 9223372036854775807
theorem key_i64 {k : Int} (h : InI k) : keyOf Try.prog 3 (.int .i64 k) = some (.int .i64 k) := keyOf_int_mk Try.underlying3 (WalkArith.wf_i64 h)
/-- A page as a value. -/
def PgV (p : Pg) (s : Value) : Value := .agg #[.int .i64 p.n, .int .i64 p.r, s]
/-- Rows of bytes are as they were. -/
def KpB (w w' : World) : Prop := ∀ (i : Nat) (cur : Array Value), w.heap[i]? = some (.cells cur 5 (0, 0)) → w'.heap[i]? = w.heap[i]?
theorem KpB.refl (w : World) : KpB w w := fun _ _ _ => rfl
theorem KpB.trans {a b c : World} (h : KpB a b) (k : KpB b c) : KpB a c := fun i cur hi => by
  have h1 := h i cur hi
  rw [k i cur (h1.trans hi), h1]
theorem KpB.below {w w' : World} (h : Below w.heap.size w w') : KpB w w' := fun i cur hi => h.block i (Array.getElem?_eq_some_iff.1 hi).1
theorem KpB.oth {g : Nat} {w w' : World} (h : Oth g w w') (hg : ∀ cur, w.heap[g]? ≠ some (.cells cur 5 (0, 0))) : KpB w w' := fun i cur hi => h.2 i (fun e => hg cur (e ▸ hi))
theorem Own.kpb {B : Nat} {L : List Int} {v : Value} {w w' : World} (h : Own B L v w) (hk : KpB w w') : Own B L v w' := by
  obtain ⟨hy, h1, h2⟩ := h
  refine ⟨hy, h1, ?_⟩
  rcases h2 with h2 | ⟨g, cap, cur, rfl, hb', hg, r⟩
  · exact .inl h2
  · exact .inr ⟨g, cap, cur, rfl, hb', (hk g cur hg).trans hg, r⟩
/-- Block bm is a map that holds these pages; the bytes of each lie in a row of its own from block B on. -/
def MapAt (B bm : Nat) (L : List Pg) (w : World) : Prop :=
  ∃ D : DataW Value, w.ownsMap Try.prog 3 RV bm L.length D ∧ Maps.size D = L.length ∧
    ∀ k : Int, (lookP L k = none → Maps.has D (.int .i64 k) = false) ∧
      ∀ p, lookP L k = some p → Maps.has D (.int .i64 k) = true ∧ ∃ s, Own B p.d s w ∧ ∀ z, D.atKey (.int .i64 k) z = .held (PgV p s)
theorem MapAt.keep {B bm : Nat} {L : List Pg} {w w' : World} (h : MapAt B bm L w) (hb : w'.heap[bm]? = w.heap[bm]?) (hk : KpB w w') : MapAt B bm L w' := by
  obtain ⟨D, ho, hs, hl⟩ := h
  refine ⟨D, ?_, hs, fun k => ⟨(hl k).1, fun p hp => ?_⟩⟩
  · obtain ⟨es, clock, hb', r⟩ := ho
    exact ⟨es, clock, hb.trans hb', r⟩
  · obtain ⟨h1, s, h2, h3⟩ := (hl k).2 p hp
    exact ⟨h1, s, h2.kpb hk, h3⟩
theorem MapAt.lt {B bm : Nat} {L : List Pg} {w : World} (h : MapAt B bm L w) : bm < w.heap.size := by
  obtain ⟨D, ho, _⟩ := h
  exact ho.lt
theorem MapAt.isMap {B bm : Nat} {L : List Pg} {w : World} (h : MapAt B bm L w) : ∃ es clock, w.heap[bm]? = some (.map es clock) := by
  obtain ⟨D, ⟨es, clock, hb, _⟩, _⟩ := h
  exact ⟨es, clock, hb⟩
theorem MapAt.below {B bm : Nat} {L : List Pg} {w w' : World} (h : MapAt B bm L w) (hb : Below w.heap.size w w') : MapAt B bm L w' := h.keep (hb.block bm h.lt) (KpB.below hb)
theorem MapAt.hit (c : Bool) {B bm : Nat} {L : List Pg} {w : World} (h : MapAt B bm L w) {k : Int} (hk : InI k) {p : Pg} (hp : lookP L k = some p) :
    ∃ s, Own B p.d s w ∧ (Instr.lookup 56 (.map (some bm)) (.int .i64 k) c).run Try.prog w = .ok (if c then .tuple #[PgV p s, .bool true] else PgV p s) w := by
  obtain ⟨D, ho, hs, hl⟩ := h
  obtain ⟨h1, s, h2, h3⟩ := (hl k).2 p hp
  refine ⟨s, h2, ?_⟩
  cases c with
  | true =>
    obtain ⟨v, ps, hrun, hR⟩ := ho.look_ok law_i64 Try.underlying56 (zero_pg w) (zd := .held (.agg #[.int .i64 0, .int .i64 0, .slice none 0 0])) (zp := []) rfl (key_i64 hk)
    rw [h3] at hR
    simp only [RV, Option.some.injEq, Prod.mk.injEq, DataW.held.injEq] at hR
    rw [hrun, h1, hR.1]
    rfl
  | false =>
    obtain ⟨v, ps, hrun, hR⟩ := ho.lookup law_i64 Try.underlying56 (zero_pg w) (zd := .held (.agg #[.int .i64 0, .int .i64 0, .slice none 0 0])) (zp := []) rfl (key_i64 hk)
    rw [h3] at hR
    simp only [RV, Option.some.injEq, Prod.mk.injEq, DataW.held.injEq] at hR
    rw [hrun, hR.1]
    rfl
theorem MapAt.miss {B bm : Nat} {L : List Pg} {w : World} (h : MapAt B bm L w) {k : Int} (hk : InI k) (hp : lookP L k = none) :
    (Instr.lookup 56 (.map (some bm)) (.int .i64 k) true).run Try.prog w = .ok (.tuple #[.agg #[.int .i64 0, .int .i64 0, .slice none 0 0], .bool false]) w := by
  obtain ⟨D, ho, hs, hl⟩ := h
  have h1 := (hl k).1 hp
  obtain ⟨v, ps, hrun, hR⟩ := ho.look_ok law_i64 Try.underlying56 (zero_pg w) (zd := .held (.agg #[.int .i64 0, .int .i64 0, .slice none 0 0])) (zp := []) rfl (key_i64 hk)
  rw [atKey_of_not_has h1] at hR
  simp only [RV, Option.some.injEq, Prod.mk.injEq, DataW.held.injEq] at hR
  rw [hrun, h1, hR.1]
theorem MapAt.len {B bm : Nat} {L : List Pg} {w : World} (h : MapAt B bm L w) (ty : TypeId) : (Builtin.len_ #[56] ty #[.map (some bm)]).run Try.prog w = .ok (.int .i64 L.length) w := by
  obtain ⟨D, ho, hs, hl⟩ := h
  rw [ho.len Try.underlying56 ty, hs]
theorem oth_map {b : Nat} {w w' : World} (h : w.mapTurned w' b) : Oth b w w' := by
  obtain ⟨es, clock, es', clock', hb, rfl⟩ := h
  refine ⟨⟨rfl, rfl, rfl, by simp [ChangeMaps.setBlock], fun i hi => ?_⟩, fun i hi => ?_⟩
  · exact ChangeMaps.heap_setBlock_other hb _ (by omega)
  · exact ChangeMaps.heap_setBlock_other hb _ hi
theorem MapAt.not_bytes {B bm : Nat} {L : List Pg} {w : World} (h : MapAt B bm L w) : ∀ cur, w.heap[bm]? ≠ some (.cells cur 5 (0, 0)) := fun cur e => by
  obtain ⟨es, clock, hb⟩ := h.isMap
  rw [hb] at e
  cases e
theorem ownsMap_at {P : Program} {k : TypeId} {R : Value → Option (DataW Value × List MemPlace)} {b n m : Nat} {D : DataW Value} {w : World} (h : w.ownsMap P k R b n D) (hm : Maps.size D = m) : w.ownsMap P k R b m D := by
  obtain ⟨es, clock, hb, F, hs, hD⟩ := h
  refine ⟨es, clock, hb, F, ?_, hD⟩
  rw [← hm, hD]
  simp [Maps.size, length_sorted]
theorem lit_ne {a b : Int} (h : a ≠ b) : (Lit.int .i64 a) ≠ (Lit.int .i64 b) := fun e => h (by injection e)
/-- A store. -/
theorem MapAt.put {B bm : Nat} {L L' : List Pg} {w : World} (h : MapAt B bm L w) {p : Pg} {s : Value} (hs : Own B p.d s w) (hn : InI p.n) (hlen : L.length < 1099511627776)
    (hl' : ∀ k, lookP L' k = if k = p.n then some p else lookP L k) (hll : L'.length = if (lookP L p.n).isSome then L.length else L.length + 1) :
    ∃ w', (Instr.mapUpdate 56 (.map (some bm)) (.int .i64 p.n) (PgV p s)).run Try.prog w = .ok () w' ∧ MapAt B bm L' w' ∧ Oth bm w w' := by
  have h0 := h
  obtain ⟨D, ho, hsz, hl⟩ := h
  obtain ⟨w', hrun, ho', ht⟩ := ho.store law_i64 Try.underlying56 (by unfold maxLen; omega) (key_i64 hn) (d := .held (PgV p s)) (ps := []) (val := PgV p s) rfl
  have hO := oth_map ht
  have hk := KpB.oth hO h0.not_bytes
  refine ⟨w', hrun, ⟨D.put (.int .i64 p.n) (.held (PgV p s)), ownsMap_at ho' ?_, ?_, fun k => ?_⟩, hO⟩
  · rw [Maps.size_put (ho.tidy law_i64), hll, hsz]
    cases hx : lookP L p.n with
    | none => rw [(hl p.n).1 hx]; rfl
    | some q => rw [((hl p.n).2 q hx).1]; rfl
  · rw [Maps.size_put (ho.tidy law_i64), hll, hsz]
    cases hx : lookP L p.n with
    | none => rw [(hl p.n).1 hx]; rfl
    | some q => rw [((hl p.n).2 q hx).1]; rfl
  · rw [hl' k]
    by_cases he : k = p.n
    · subst he
      rw [if_pos rfl]
      refine ⟨(fun e => by cases e), fun q hq => ?_⟩
      simp only [Option.some.injEq] at hq
      subst hq
      exact ⟨has_put_same ho.isMap (by simp [WideAt.IsKeyLit]) _, s, hs.kpb hk, fun z => atKey_put_same ho.isMap (by simp [WideAt.IsKeyLit]) _ z⟩
    · rw [if_neg he]
      refine ⟨fun e => ?_, fun q hq => ?_⟩
      · rw [has_put_other (lit_ne he)]
        exact (hl k).1 e
      · obtain ⟨h1, s', h2, h3⟩ := (hl k).2 q hq
        refine ⟨by rw [has_put_other (lit_ne he)]; exact h1, s', h2.kpb hk, fun z => ?_⟩
        rw [atKey_put_other (lit_ne he)]
        exact h3 z
/-- A removal. -/
theorem MapAt.del {B bm : Nat} {L : List Pg} {w : World} (h : MapAt B bm L w) {k : Int} (hn : InI k) {m : Int} (ha : AscP m L) {p : Pg} (hp : lookP L k = some p) (ty : TypeId) :
    ∃ w', (Builtin.delete_ #[56, 3] ty #[.map (some bm), .int .i64 k]).run Try.prog w = .ok (.tuple #[]) w' ∧ MapAt B bm (delP L k) w' ∧ Oth bm w w' := by
  have h0 := h
  obtain ⟨D, ho, hsz, hl⟩ := h
  obtain ⟨w', hrun, ho', ht⟩ := ho.drop law_i64 Try.underlying56 (key_i64 hn) ty
  have hO := oth_map ht
  have hk := KpB.oth hO h0.not_bytes
  have hd := delP_len ha hp
  have hsd : Maps.size (D.del (.int .i64 k)) = (delP L k).length := by
    have := Maps.size_del (ho.tidy law_i64) (k := .int .i64 k)
    rw [((hl k).2 p hp).1] at this
    simp only [if_true] at this
    omega
  refine ⟨w', hrun, ⟨D.del (.int .i64 k), ownsMap_at ho' hsd, hsd, fun j => ?_⟩, hO⟩
  rw [look_del]
  by_cases he : j = k
  · subst he
    rw [if_pos rfl]
    exact ⟨fun _ => has_del_same, fun q hq => by cases hq⟩
  · rw [if_neg he]
    refine ⟨fun e => ?_, fun q hq => ?_⟩
    · rw [has_del_other (lit_ne he)]
      exact (hl j).1 e
    · obtain ⟨h1, s', h2, h3⟩ := (hl j).2 q hq
      refine ⟨by rw [has_del_other (lit_ne he)]; exact h1, s', h2.kpb hk, fun z => ?_⟩
      rw [atKey_del_other (lit_ne he)]
      exact h3 z
theorem MapAt.new (B : Nat) (w : World) : MapAt B w.heap.size [] (w.alloc (.map #[] 0)) := ⟨.map [], World.ownsMap_made _ _ _ _, rfl, fun k => ⟨fun _ => rfl, fun p hp => by simp [lookP] at hp⟩⟩
/-- An arena: its struct in block g, its map in block bm. -/
structure ArAt (B g bm : Nat) (c lo : Int) (L : List Pg) (w : World) : Prop where
  row : ∃ cur, w.heap[g]? = some (.cells cur 58 (0, 0)) ∧ cur = #[.int .i64 c, .map (some bm), .int .i64 lo]
  map : MapAt B bm L w
  asc : AscP 1 L
  refs : ∀ p ∈ L, 1 ≤ p.r ∧ p.r ≤ 4611686018427387904
  cap : 0 ≤ c ∧ c ≤ 16384 ∧ (L.length : Int) ≤ c
  num : ∀ p ∈ L, p.n ≤ 16384
  low : 1 ≤ lo ∧ lo ≤ frN 1 L
theorem ArAt.rowAt {B g bm : Nat} {c lo : Int} {L : List Pg} {w : World} (h : ArAt B g bm c lo L w) : RowAt g #[.int .i64 c, .map (some bm), .int .i64 lo] w := by
  obtain ⟨cur, h1, rfl⟩ := h.row
  exact ⟨_, h1⟩
theorem ArAt.keep {B g bm : Nat} {c lo : Int} {L : List Pg} {w w' : World} (h : ArAt B g bm c lo L w) (h1 : w'.heap[g]? = w.heap[g]?) (h2 : w'.heap[bm]? = w.heap[bm]?) (hk : KpB w w') : ArAt B g bm c lo L w' := by
  obtain ⟨cur, hc, he⟩ := h.row
  exact ⟨⟨cur, h1.trans hc, he⟩, h.map.keep h2 hk, h.asc, h.refs, h.cap, h.num, h.low⟩
theorem ArAt.lt {B g bm : Nat} {c lo : Int} {L : List Pg} {w : World} (h : ArAt B g bm c lo L w) : g < w.heap.size ∧ bm < w.heap.size := ⟨h.rowAt.lt, h.map.lt⟩
theorem ArAt.below {B g bm : Nat} {c lo : Int} {L : List Pg} {w w' : World} (h : ArAt B g bm c lo L w) (hb : Below w.heap.size w w') : ArAt B g bm c lo L w' :=
  h.keep (hb.block g h.lt.1) (hb.block bm h.lt.2) (KpB.below hb)
theorem ArAt.ne {B g bm : Nat} {c lo : Int} {L : List Pg} {w : World} (h : ArAt B g bm c lo L w) : g ≠ bm := fun e => by
  obtain ⟨cur, hc, he⟩ := h.row
  obtain ⟨es, clock, hb⟩ := h.map.isMap
  rw [e, hb] at hc
  cases hc
theorem ArAt.not_bytes {B g bm : Nat} {c lo : Int} {L : List Pg} {w : World} (h : ArAt B g bm c lo L w) : ∀ cur, w.heap[g]? ≠ some (.cells cur 5 (0, 0)) := fun cur e => by
  obtain ⟨cu, hc, he⟩ := h.row
  rw [hc] at e
  simp at e
/-- The struct and the map alone have turned; there may be new blocks. -/
def Tn (g bm : Nat) (w w' : World) : Prop := w'.os = w.os ∧ w'.tape = w.tape ∧ w'.output = w.output ∧ w.heap.size ≤ w'.heap.size ∧ ∀ i, i < w.heap.size → i ≠ g → i ≠ bm → w'.heap[i]? = w.heap[i]?
theorem Tn.refl (g bm : Nat) (w : World) : Tn g bm w w := ⟨rfl, rfl, rfl, Nat.le_refl _, fun _ _ _ _ => rfl⟩
theorem Tn.trans {g bm : Nat} {a b c : World} (h : Tn g bm a b) (k : Tn g bm b c) : Tn g bm a c := by
  obtain ⟨h1, h2, h3, h4, h5⟩ := h
  obtain ⟨k1, k2, k3, k4, k5⟩ := k
  exact ⟨k1.trans h1, k2.trans h2, k3.trans h3, Nat.le_trans h4 k4, fun i hi x y => (k5 i (by omega) x y).trans (h5 i hi x y)⟩
theorem Tn.below {g bm B : Nat} {w w' : World} (h : Tn g bm w w') (h1 : B ≤ g) (h2 : B ≤ bm) (hB : B ≤ w.heap.size) : Below B w w' := ⟨h.1, h.2.1, h.2.2.1, h.2.2.2.1, fun i hi => h.2.2.2.2 i (by omega) (by omega) (by omega)⟩
theorem Tn.of_below {g bm : Nat} {w w' : World} (h : Below w.heap.size w w') : Tn g bm w w' := ⟨h.os, h.tape, h.output, h.size, fun i hi _ _ => h.block i hi⟩
theorem Tn.of_map {g bm : Nat} {w w' : World} (h : Oth bm w w') : Tn g bm w w' := ⟨h.1.os, h.1.tape, h.1.output, h.1.size, fun i _ _ hi => h.2 i hi⟩
theorem Tn.of_row {g bm : Nat} {w w' : World} (h : Oth g w w') : Tn g bm w w' := ⟨h.1.os, h.1.tape, h.1.output, h.1.size, fun i _ hi _ => h.2 i hi⟩
theorem Tn.size {g bm : Nat} {w w' : World} (h : Tn g bm w w') : w.heap.size ≤ w'.heap.size := h.2.2.2.1
theorem Tn.block {g bm : Nat} {w w' : World} (h : Tn g bm w w') {i : Nat} (hi : i < w.heap.size) (h1 : i ≠ g) (h2 : i ≠ bm) : w'.heap[i]? = w.heap[i]? := h.2.2.2.2 i hi h1 h2
end Go.Proofs.Ytmnahnmkffndlaa
