/- MapE, TopN, OrdC: in one text. -/
import Derived.Test.YtcndobdbjillpaaGreatDoorPk04
import Derived.Test.YtcndobdbjillpaaGreatDoorPk00
import Derived.Lib.Strings
import Derived.Lib.Bytealg
import Derived.Maps.OwnSet
import Derived.StringKeys
import Derived.Carry
namespace Go.Proofs.YtcndobdbjillpaaGreatDoor
open Go.RowKit Go.Maps
set_option linter.unusedVariables false
set_option linter.unusedSimpArgs false
def sameK (a b : ByteArray) : Bool := a.toList == b.toList
theorem data_inj {a b : ByteArray} (h : a.data.toList = b.data.toList) : a = b := by
  cases a; cases b
  simp only [ByteArray.mk.injEq]
  exact Array.toList_inj.1 h
theorem sameK_iff (a b : ByteArray) : sameK a b = true ↔ a = b := by
  unfold sameK
  rw [Lib.toList_data, Lib.toList_data, beq_iff_eq]
  exact ⟨data_inj, fun h => by rw [h]⟩
theorem sameK_comm (a b : ByteArray) : sameK a b = sameK b a := by
  rw [Bool.eq_iff_iff, sameK_iff, sameK_iff]
  exact eq_comm
/-- A key has an entry. -/
def hasK (L : List Ent) (k : ByteArray) : Bool := L.any (fun y => sameK y.k k)
theorem take_succE {L : List Ent} {j : Nat} (h : j < L.length) : L.take (j + 1) = L.take j ++ [L.getD j Ent.z] := by
  rw [List.take_succ_eq_append_getElem h]
  simp [List.getD, h]
theorem hasK_succ {L : List Ent} {j : Nat} (h : j < L.length) (k : ByteArray) : hasK (L.take (j + 1)) k = (hasK (L.take j) k || sameK (L.getD j Ent.z).k k) := by
  unfold hasK
  rw [take_succE h, List.any_append]
  simp
theorem law_str : Keyed Tryz.prog 9 := string_keyed Tryz.underlying9
theorem zero_bool (w : World) : (zeroValue 4).run Tryz.prog w = .ok (.bool false) w := by kernel_rfl
theorem key_str {k : ByteArray} (h : k.size ≤ maxLen) : keyOf Tryz.prog 9 (.string k) = some (.string k.data.toList) := Go.WideMaps.keyOf_string_mk Tryz.underlying9 h
theorem ne_key {a b : ByteArray} (h : sameK a b = false) : (Lit.string b.data.toList) ≠ (Lit.string a.data.toList) := by
  intro e
  injection e with e
  have := (sameK_iff a b).2 (data_inj e).symm
  rw [h] at this
  cases this
theorem bool_inv {H : Type} {P : Program} {e : TypeId} (he : P.underlying e = some .bool) {v : Value} {x : Bool} {ps : List MemPlace} (h : plainElem (H := H) P e v = some (.lit (.bool x), ps)) : v = .bool x := by
  unfold plainElem at h
  rw [he] at h
  cases v <;> simp at h
  rw [h.1]
section
variable {w : World} {ops : Array Oper} {rest : List Oper} {o : Oper} {a : Act} {Q : Exit → Act → World → Prop}
/-- Block b holds the keys of the first j entries. -/
def SeenM (L : List Ent) (j b : Nat) (w : World) : Prop :=
  ∃ (D : DataW Unit) (n : Nat), n ≤ j ∧ w.ownsMap Tryz.prog 9 (plainElem Tryz.prog 4) b n D ∧ ∀ k : ByteArray, D.atKey (.string k.data.toList) (.lit (.bool false)) = .lit (.bool (hasK (L.take j) k))
theorem SeenM.lt {L : List Ent} {j b : Nat} {w : World} (h : SeenM L j b w) : b < w.heap.size := by
  obtain ⟨D, n, hn, ho, hk⟩ := h
  exact ho.lt
theorem ownsMap_blk {H : Type} {P : Program} {k : TypeId} {R : Value → Option (DataW H × List MemPlace)} {b n : Nat} {D : DataW H} {w w' : World} (h : w.ownsMap P k R b n D) (hb : w'.heap[b]? = w.heap[b]?) : w'.ownsMap P k R b n D := by
  obtain ⟨es, clock, hb', r⟩ := h
  exact ⟨es, clock, hb.trans hb', r⟩
theorem SeenM.below {L : List Ent} {j b : Nat} {w w' : World} (h : SeenM L j b w) (hb : Below w.heap.size w w') : SeenM L j b w' := by
  have hl := h.lt
  obtain ⟨D, n, hn, ho, hk⟩ := h
  exact ⟨D, n, hn, ownsMap_blk ho (hb.block b hl), hk⟩
theorem SeenM.new (L : List Ent) (w : World) : SeenM L 0 w.heap.size (w.alloc (.map #[] 0)) := ⟨.map [], 0, Nat.le_refl _, World.ownsMap_made _ _ _ _, fun k => rfl⟩
theorem wp_seen_look (hgd : o.guard = none) (m x : Operand) (hop : o.op = Op.lookup 202 m x false) (L : List Ent) (j b : Nat) (k : ByteArray) (hm : a.eval m = .map (some b)) (hx : a.eval x = .string k)
    (h : SeenM L j b w) (hk : k.size ≤ maxLen) (hK : wpList Tryz.prog ops Q rest (a.put o.dst (.bool (hasK (L.take j) k))) w) : wpList Tryz.prog ops Q (o :: rest) a w := by
  obtain ⟨D, n, hn, ho, hD⟩ := h
  obtain ⟨v, ps, hrun, hR⟩ := ho.lookup law_str Tryz.underlying202 (zero_bool w) (plainElem_bool Tryz.underlying4 false) (key_str hk)
  rw [hD] at hR
  have hv := bool_inv Tryz.underlying4 hR
  subst hv
  refine wpList_plain hgd fun K' hK' => ?_
  unfold Oper.wp
  simp [execOp, hop, hm, hx, hrun, Result.andThen]
  exact hK' _ _ hK
theorem wp_seen_put (hgd : o.guard = none) (m x v : Operand) (hop : o.op = Op.mapUpdate 202 m x v) (L : List Ent) (j b : Nat) (k0 : ByteArray) (hkk : (L.getD j Ent.z).k = k0) (hj : j < L.length) (hm : a.eval m = .map (some b)) (hx : a.eval x = .string k0) (hv : a.eval v = .bool true)
    (h : SeenM L j b w) (hk : k0.size ≤ maxLen) (hjm : j < maxLen) (hK : ∀ w', SeenM L (j + 1) b w' → w.grownBy w' (some b) → wpList Tryz.prog ops Q rest (a.put o.dst undef) w') : wpList Tryz.prog ops Q (o :: rest) a w := by
  subst hkk
  obtain ⟨D, n, hn, ho, hD⟩ := h
  refine wpList_mapUpdate_own w hgd m x v 202 hop 9 4 law_str Tryz.underlying202 (plainElem Tryz.prog 4) b n D hm ho (by omega) _ _ _ hx hv (key_str hk) _ [] (plainElem_bool Tryz.underlying4 true) ?_
  intro w' h1 h2
  refine hK w' ⟨_, n + 1, by omega, h1, fun k => ?_⟩ h2
  rw [hasK_succ hj]
  cases hs : sameK (L.getD j Ent.z).k k with
  | true =>
    have := (sameK_iff _ _).1 hs
    subst this
    rw [atKey_put_same ho.isMap (by simp [WideAt.IsKeyLit])]
    simp
  | false =>
    rw [atKey_put_other (ne_key hs), hD, Bool.or_false]
end
end Go.Proofs.YtcndobdbjillpaaGreatDoor
namespace Go.Proofs.YtcndobdbjillpaaGreatDoor
open Go.RowKit
set_option linter.unusedVariables false
set_option linter.unusedSimpArgs false
structure TP where
  S : Int
  T : Int
  L : List Ent
  s : Bool
def TP.none : TP := ⟨0, 0, [], false⟩
/-- A summary that can be read. -/
def RdT (t : TP) (v : Value) (w : World) : Prop := ∃ a n cap, v = .agg #[.int .i64 t.S, .int .i64 t.T, .slice a n cap, .bool t.s] ∧ RdE t.L (.slice a n cap) w
theorem RdT.below {t : TP} {v : Value} {w w' : World} (h : RdT t v w) (hb : Below w.heap.size w w') : RdT t v w' := by
  obtain ⟨a, n, cap, rfl, h⟩ := h
  exact ⟨a, n, cap, rfl, h.below hb⟩
/-- A summary of the call's own. -/
def OwnT (B : Nat) (t : TP) (v : Value) (w : World) : Prop := ∃ a n cap, v = .agg #[.int .i64 t.S, .int .i64 t.T, .slice a n cap, .bool t.s] ∧ OwnE B t.L (.slice a n cap) w
theorem OwnT.rd {B : Nat} {t : TP} {v : Value} {w : World} (h : OwnT B t v w) : RdT t v w := by
  obtain ⟨a, n, cap, rfl, h⟩ := h
  exact ⟨a, n, cap, rfl, h.rd⟩
theorem OwnT.below {B : Nat} {t : TP} {v : Value} {w w' : World} (h : OwnT B t v w) (hb : Below w.heap.size w w') : OwnT B t v w' := by
  obtain ⟨a, n, cap, rfl, h⟩ := h
  exact ⟨a, n, cap, rfl, h.below hb⟩
/-- A struct of four cells in memory: a summary. -/
def TopS (g : Nat) (S T : Int) (v : Value) (s : Bool) (w : World) : Prop :=
  (w.cell? ⟨g, 0, none⟩ = some (.int .i64 S) ∧ w.cell? ⟨g, 1, none⟩ = some (.int .i64 T) ∧ w.cell? ⟨g, 2, none⟩ = some v ∧ w.cell? ⟨g, 3, none⟩ = some (.bool s)) ∧
    w.frozen? ⟨g, 0, none⟩ = false ∧ w.frozen? ⟨g, 1, none⟩ = false ∧ w.frozen? ⟨g, 2, none⟩ = false ∧ w.frozen? ⟨g, 3, none⟩ = false
theorem TopS.keep {g : Nat} {S T : Int} {v : Value} {s : Bool} {w w' : World} (h : TopS g S T v s w) (hb : w'.heap[g]? = w.heap[g]?) : TopS g S T v s w' := by
  obtain ⟨⟨h0, h1, h2, h3⟩, f0, f1, f2, f3⟩ := h
  have hc : ∀ o, w'.cell? ⟨g, o, none⟩ = w.cell? ⟨g, o, none⟩ := fun o => World.cell?_of_block (w := w) (a := ⟨g, o, none⟩) hb
  have hf : ∀ o, w'.frozen? ⟨g, o, none⟩ = w.frozen? ⟨g, o, none⟩ := fun o => World.frozen?_of_block (w := w) (a := ⟨g, o, none⟩) hb
  exact ⟨⟨(hc _).trans h0, (hc _).trans h1, (hc _).trans h2, (hc _).trans h3⟩, (hf _).trans f0, (hf _).trans f1, (hf _).trans f2, (hf _).trans f3⟩
theorem TopS.below {g : Nat} {S T : Int} {v : Value} {s : Bool} {w w' : World} (h : TopS g S T v s w) {B : Nat} (hb : Below B w w') (hg : g < B) : TopS g S T v s w' := h.keep (hb.block g hg)
theorem TopS.new (S T : Int) (v : Value) (s : Bool) (t : TypeId) (w : World) : TopS w.heap.size S T v s (w.alloc (.cells #[.int .i64 S, .int .i64 T, v, .bool s] t)) := by
  exact ⟨⟨by go_simp, by go_simp, by go_simp, by go_simp⟩, by go_simp, by go_simp, by go_simp, by go_simp⟩
theorem TopS.lt {g : Nat} {S T : Int} {v : Value} {s : Bool} {w : World} (h : TopS g S T v s w) : g < w.heap.size := by
  have h0 := h.1.1
  unfold World.cell? at h0
  cases hb : w.heap[g]? with
  | none => simp [hb] at h0
  | some o => exact (Array.getElem?_eq_some_iff.1 hb).1
/-- What is wrong with an entry. -/
def entE (x : Ent) : Int := if keyB (byt x.k) = false then 7 else if x.c < 1 ∨ 1099511627776 < x.c ∨ x.e < 0 ∨ x.c ≤ x.e then 5 else 0
/-- What is wrong at position i. -/
def errAt (L : List Ent) (i : Nat) : Int :=
  if entE (L.getD i Ent.z) ≠ 0 then entE (L.getD i Ent.z) else if hasK (L.take i) (L.getD i Ent.z).k = true then 9 else if 0 < i ∧ bef (L.getD (i - 1) Ent.z) (L.getD i Ent.z) = false then 19 else 0
/-- The first error among the m entries from i on. -/
def vgo (L : List Ent) : Nat → Nat → Int
  | 0, _ => 0
  | m + 1, i => if errAt L i ≠ 0 then errAt L i else vgo L m (i + 1)
def valE (S T : Int) (L : List Ent) : Int := if S < 1 ∨ 32 < S ∨ T < 0 ∨ 1099511627776 < T then 5 else if S < L.length then 11 else vgo L L.length 0
theorem entE_cases (x : Ent) : entE x = 0 ∨ entE x = 7 ∨ entE x = 5 := by
  unfold entE
  split
  · exact .inr (.inl rfl)
  · split
    · exact .inr (.inr rfl)
    · exact .inl rfl
end Go.Proofs.YtcndobdbjillpaaGreatDoor
namespace Go.Proofs.YtcndobdbjillpaaGreatDoor
open Go.RowKit
set_option linter.unusedVariables false
set_option linter.unusedSimpArgs false
set_option maxRecDepth 100000 in
set_option maxHeartbeats 4000000 in
theorem compare_any (x y : Ent) (w : World) : Calls Tryz.prog 145 #[.agg #[.string x.k, .int .i64 x.c, .int .i64 x.e], .agg #[.string y.k, .int .i64 y.c, .int .i64 y.e]] w fun e w' =>
      e = .returned (.int .i64 (cmpE x y)) ∧ Below w.heap.size w w' := by
  have h1 := fun w => cmpi_any y.c x.c w
  have h2 := fun w => scmp_any x.k y.k w
  have h3 := fun g w h0 h1 => or_any (cmpI y.c x.c) (Lib.compareBytes x.k.data.toList y.k.data.toList) g w h0 h1
  rw [or2_cmp] at h3
  obtain ⟨k, c, e⟩ := x
  obtain ⟨k', c', e'⟩ := y
  dsimp only at h1 h2 h3 ⊢
  generalize cmpE ⟨k, c, e⟩ ⟨k', c', e'⟩ = R at *
  generalize cmpI c' c = p at *
  generalize Lib.compareBytes k.data.toList k'.data.toList = q at *
  go_enter Tryz.func145, Tryz.ntmps145
  go_wp2
  go_region_law (go_simp; first
    | (go_at_call 210; refine (h1 _).mono ?_; rintro e w' ⟨rfl, rfl⟩)
    | (go_at_call 211; refine (h2 _).mono ?_; rintro e w' ⟨rfl, rfl⟩)
    | (go_at_call 209; refine (h3 _ _ (by go_simp) (by go_simp)).mono ?_; rintro e w' ⟨rfl, rfl⟩))
  all_goals
    go_wp2
    go_ret
    exact ⟨rfl, by first | exact bal (b2 _ _) _ | exact (bal (b2 _ _) _).drew | exact (bal (b2 _ _) _).drewN _⟩
end Go.Proofs.YtcndobdbjillpaaGreatDoor
