/- Two maps of the call's own: the keys seen so far (map[string]bool), and the positions of the keys (map[string]int). -/
import Derived.Test.YtcmekpdgikploaaEnts
import Derived.Lib.Strings
import Derived.Lib.Bytealg
import Derived.Maps.OwnSet
import Derived.StringKeys
import Derived.Carry
namespace Go.Proofs.Ytcmekpdgikploaa
open Go.RowKit Go.Maps
set_option linter.unusedVariables false
set_option linter.unusedSimpArgs false
def sameK (a b : ByteArray) : Bool := a.toList == b.toList
theorem data_inj {a b : ByteArray} (h : a.data.toList = b.data.toList) : a = b := by
  cases a; cases b
  simp only [ByteArray.mk.injEq]
  exact Array.toList_inj.1 h
theorem sameK_iff (a b : ByteArray) : sameK a b = true ↔ a = b := by
  unfold sameK
  rw [Lib.toList_data, Lib.toList_data, beq_iff_eq]
  exact ⟨data_inj, fun h => by rw [h]⟩
theorem sameK_self (a : ByteArray) : sameK a a = true := (sameK_iff a a).2 rfl
theorem sameK_comm (a b : ByteArray) : sameK a b = sameK b a := by
  rw [Bool.eq_iff_iff, sameK_iff, sameK_iff]
  exact eq_comm
/-- A key has an entry. -/
def hasK (L : List Ent) (k : ByteArray) : Bool := L.any (fun y => sameK y.k k)
theorem take_succE {L : List Ent} {j : Nat} (h : j < L.length) : L.take (j + 1) = L.take j ++ [L.getD j Ent.z] := by
  rw [List.take_succ_eq_append_getElem h]
  simp [List.getD, h]
theorem hasK_succ {L : List Ent} {j : Nat} (h : j < L.length) (k : ByteArray) : hasK (L.take (j + 1)) k = (hasK (L.take j) k || sameK (L.getD j Ent.z).k k) := by
  unfold hasK
  rw [take_succE h, List.any_append]
  simp
theorem law_str : Keyed Try.prog 9 := string_keyed Try.underlying9
theorem zero_bool (w : World) : (zeroValue 4).run Try.prog w = .ok (.bool false) w := by kernel_rfl
theorem zero_int (w : World) : (zeroValue 3).run Try.prog w = .ok (.int .i64 0) w := by kernel_rfl
theorem key_str {k : ByteArray} (h : k.size ≤ maxLen) : keyOf Try.prog 9 (.string k) = some (.string k.data.toList) := Go.WideMaps.keyOf_string_mk Try.underlying9 h
theorem ne_key {a b : ByteArray} (h : sameK a b = false) : (Lit.string b.data.toList) ≠ (Lit.string a.data.toList) := by
  intro e
  injection e with e
  have := (sameK_iff a b).2 (data_inj e).symm
  rw [h] at this
  cases this
theorem bool_inv {H : Type} {P : Program} {e : TypeId} (he : P.underlying e = some .bool) {v : Value} {x : Bool} {ps : List MemPlace} (h : plainElem (H := H) P e v = some (.lit (.bool x), ps)) : v = .bool x := by
  unfold plainElem at h
  rw [he] at h
  cases v <;> simp at h
  rw [h.1]
section
variable {w : World} {ops : Array Oper} {rest : List Oper} {o : Oper} {a : Act} {Q : Exit → Act → World → Prop}
/-- Block b holds the keys of the first j entries. -/
def SeenM (L : List Ent) (j b : Nat) (w : World) : Prop :=
  ∃ (D : DataW Unit) (n : Nat), n ≤ j ∧ w.ownsMap Try.prog 9 (plainElem Try.prog 4) b n D ∧ ∀ k : ByteArray, D.atKey (.string k.data.toList) (.lit (.bool false)) = .lit (.bool (hasK (L.take j) k))
theorem SeenM.kept {L : List Ent} {j b : Nat} {w w' : World} (h : SeenM L j b w) {row : Option Nat} (hg : w.grownBy w' row) (hne : some b ≠ row) : SeenM L j b w' := by
  obtain ⟨D, n, hn, ho, hk⟩ := h
  exact ⟨D, n, hn, ho.kept hg hne, hk⟩
theorem SeenM.lt {L : List Ent} {j b : Nat} {w : World} (h : SeenM L j b w) : b < w.heap.size := by
  obtain ⟨D, n, hn, ho, hk⟩ := h
  exact ho.lt
theorem ownsMap_blk {H : Type} {P : Program} {k : TypeId} {R : Value → Option (DataW H × List MemPlace)} {b n : Nat} {D : DataW H} {w w' : World} (h : w.ownsMap P k R b n D) (hb : w'.heap[b]? = w.heap[b]?) : w'.ownsMap P k R b n D := by
  obtain ⟨es, clock, hb', r⟩ := h
  exact ⟨es, clock, hb.trans hb', r⟩
theorem SeenM.below {L : List Ent} {j b : Nat} {w w' : World} (h : SeenM L j b w) (hb : Below w.heap.size w w') : SeenM L j b w' := by
  have hl := h.lt
  obtain ⟨D, n, hn, ho, hk⟩ := h
  exact ⟨D, n, hn, ownsMap_blk ho (hb.block b hl), hk⟩
theorem SeenM.new (L : List Ent) (w : World) : SeenM L 0 w.heap.size (w.alloc (.map #[] 0)) := ⟨.map [], 0, Nat.le_refl _, World.ownsMap_made _ _ _ _, fun k => rfl⟩
theorem wp_seen_look (hgd : o.guard = none) (m x : Operand) (hop : o.op = Op.lookup 72 m x false) (L : List Ent) (j b : Nat) (k : ByteArray) (hm : a.eval m = .map (some b)) (hx : a.eval x = .string k)
    (h : SeenM L j b w) (hk : k.size ≤ maxLen) (hK : wpList Try.prog ops Q rest (a.put o.dst (.bool (hasK (L.take j) k))) w) : wpList Try.prog ops Q (o :: rest) a w := by
  obtain ⟨D, n, hn, ho, hD⟩ := h
  obtain ⟨v, ps, hrun, hR⟩ := ho.lookup law_str Try.underlying72 (zero_bool w) (plainElem_bool Try.underlying4 false) (key_str hk)
  rw [hD] at hR
  have hv := bool_inv Try.underlying4 hR
  subst hv
  refine wpList_plain hgd fun K' hK' => ?_
  unfold Oper.wp
  simp [execOp, hop, hm, hx, hrun, Result.andThen]
  exact hK' _ _ hK
theorem wp_seen_put (hgd : o.guard = none) (m x v : Operand) (hop : o.op = Op.mapUpdate 72 m x v) (L : List Ent) (j b : Nat) (k0 : ByteArray) (hkk : (L.getD j Ent.z).k = k0) (hj : j < L.length) (hm : a.eval m = .map (some b)) (hx : a.eval x = .string k0) (hv : a.eval v = .bool true)
    (h : SeenM L j b w) (hk : k0.size ≤ maxLen) (hjm : j < maxLen) (hK : ∀ w', SeenM L (j + 1) b w' → w.grownBy w' (some b) → wpList Try.prog ops Q rest (a.put o.dst undef) w') : wpList Try.prog ops Q (o :: rest) a w := by
  subst hkk
  obtain ⟨D, n, hn, ho, hD⟩ := h
  refine wpList_mapUpdate_own w hgd m x v 72 hop 9 4 law_str Try.underlying72 (plainElem Try.prog 4) b n D hm ho (by omega) _ _ _ hx hv (key_str hk) _ [] (plainElem_bool Try.underlying4 true) ?_
  intro w' h1 h2
  refine hK w' ⟨_, n + 1, by omega, h1, fun k => ?_⟩ h2
  rw [hasK_succ hj]
  cases hs : sameK (L.getD j Ent.z).k k with
  | true =>
    have := (sameK_iff _ _).1 hs
    subst this
    rw [atKey_put_same ho.isMap (by simp [WideAt.IsKeyLit])]
    simp
  | false =>
    rw [atKey_put_other (ne_key hs), hD, Bool.or_false]
/-- Block b holds the positions of the keys of the first j entries. -/
def PosM (L : List Ent) (j b : Nat) (w : World) : Prop :=
  ∃ (D : DataW Unit) (n : Nat), n ≤ j ∧ w.ownsMap Try.prog 9 (plainElem Try.prog 3) b n D ∧
    ∀ k : ByteArray, Maps.has D (.string k.data.toList) = hasK (L.take j) k ∧ (hasK (L.take j) k = true → ∃ i : Nat, i < j ∧ sameK (L.getD i Ent.z).k k = true ∧ D.atKey (.string k.data.toList) (.lit (.int .i64 0)) = .lit (.int .i64 (i : Int)))
theorem PosM.lt {L : List Ent} {j b : Nat} {w : World} (h : PosM L j b w) : b < w.heap.size := by
  obtain ⟨D, n, hn, ho, hk⟩ := h
  exact ho.lt
theorem PosM.blk {L : List Ent} {j b : Nat} {w w' : World} (h : PosM L j b w) (hb : w'.heap[b]? = w.heap[b]?) : PosM L j b w' := by
  obtain ⟨D, n, hn, ho, hk⟩ := h
  exact ⟨D, n, hn, ownsMap_blk ho hb, hk⟩
theorem PosM.below {L : List Ent} {j b : Nat} {w w' : World} (h : PosM L j b w) (hb : Below w.heap.size w w') : PosM L j b w' := h.blk (hb.block b h.lt)
theorem PosM.drewN {L : List Ent} {j b : Nat} {w : World} (h : PosM L j b w) (n : Nat) : PosM L j b (w.drewN n) := h
theorem PosM.new (L : List Ent) (w : World) : PosM L 0 w.heap.size (w.alloc (.map #[] 0)) := ⟨.map [], 0, Nat.le_refl _, World.ownsMap_made _ _ _ _, fun k => ⟨rfl, fun h => by simp [hasK] at h⟩⟩
/-- What a look-up of a position gives: a position with this key, 0 if there is none. -/
def PosOf (L : List Ent) (j : Nat) (k : ByteArray) (c : Int) : Prop := (hasK (L.take j) k = true ∧ ∃ i : Nat, i < j ∧ sameK (L.getD i Ent.z).k k = true ∧ c = (i : Int)) ∨ (hasK (L.take j) k = false ∧ c = 0)
theorem run_pos_look {L : List Ent} {j b : Nat} {k : ByteArray} (h : PosM L j b w) (hk : k.size ≤ maxLen) :
    ∃ c : Int, PosOf L j k c ∧ (Instr.lookup 61 (.map (some b)) (.string k) true).run Try.prog w = .ok (.tuple #[.int .i64 c, .bool (hasK (L.take j) k)]) w := by
  obtain ⟨D, n, hn, ho, hD⟩ := h
  obtain ⟨v, ps, hrun, hR⟩ := ho.look_ok law_str Try.underlying61 (zero_int w) (plainElem_int (q := .i64) Try.underlying3 (by decide)) (key_str hk)
  obtain ⟨c, rfl, hz, _⟩ := plainElem_int_inv Try.underlying3 hR
  obtain ⟨h1, h2⟩ := hD k
  rw [h1] at hrun
  refine ⟨c, ?_, hrun⟩
  simp only [Prod.mk.injEq] at hz
  cases hh : hasK (L.take j) k with
  | true =>
    obtain ⟨i, hi, hs, he⟩ := h2 hh
    rw [he] at hz
    have e := hz.1
    injection e with e
    injection e with _ e
    exact .inl ⟨hh, i, hi, hs, e.symm⟩
  | false =>
    rw [atKey_of_not_has (by rw [h1]; exact hh)] at hz
    have e := hz.1
    injection e with e
    injection e with _ e
    exact .inr ⟨hh, e.symm⟩
theorem wp_pos_look (hgd : o.guard = none) (m x : Operand) (hop : o.op = Op.lookup 61 m x true) (L : List Ent) (j b : Nat) (k : ByteArray) (hm : a.eval m = .map (some b)) (hx : a.eval x = .string k)
    (h : PosM L j b w) (hk : k.size ≤ maxLen) (hK : ∀ c : Int, PosOf L j k c → wpList Try.prog ops Q rest (a.put o.dst (.tuple #[.int .i64 c, .bool (hasK (L.take j) k)])) w) : wpList Try.prog ops Q (o :: rest) a w := by
  obtain ⟨c, hc, hrun⟩ := run_pos_look h hk
  refine wpList_plain hgd fun K' hK' => ?_
  unfold Oper.wp
  simp [execOp, hop, hm, hx, hrun, Result.andThen]
  exact hK' _ _ (hK c hc)
theorem wp_pos_put (hgd : o.guard = none) (m x v : Operand) (hop : o.op = Op.mapUpdate 61 m x v) (L : List Ent) (j b : Nat) (k0 : ByteArray) (hkk : (L.getD j Ent.z).k = k0) (hj : j < L.length) (hm : a.eval m = .map (some b)) (hx : a.eval x = .string k0) (hv : a.eval v = .int .i64 (j : Int))
    (h : PosM L j b w) (hk : k0.size ≤ maxLen) (hjm : j < maxLen) (hK : ∀ w', PosM L (j + 1) b w' → w.grownBy w' (some b) → wpList Try.prog ops Q rest (a.put o.dst undef) w') : wpList Try.prog ops Q (o :: rest) a w := by
  subst hkk
  obtain ⟨D, n, hn, ho, hD⟩ := h
  have hwf : (Lit.int .i64 (j : Int)).wf = true := WalkArith.wf_i64 (by unfold maxLen at hjm; omega)
  refine wpList_mapUpdate_own w hgd m x v 61 hop 9 3 law_str Try.underlying61 (plainElem Try.prog 3) b n D hm ho (by omega) _ _ _ hx hv (key_str hk) _ [] (plainElem_int (q := .i64) Try.underlying3 hwf) ?_
  intro w' h1 h2
  refine hK w' ⟨_, n + 1, by omega, h1, fun k => ?_⟩ h2
  rw [hasK_succ hj]
  cases hs : sameK (L.getD j Ent.z).k k with
  | true =>
    have := (sameK_iff _ _).1 hs
    subst this
    rw [has_put_same ho.isMap (by simp [WideAt.IsKeyLit]), atKey_put_same ho.isMap (by simp [WideAt.IsKeyLit]), Bool.or_true]
    exact ⟨rfl, fun _ => ⟨j, by omega, sameK_self _, rfl⟩⟩
  | false =>
    rw [has_put_other (ne_key hs), atKey_put_other (ne_key hs), Bool.or_false]
    obtain ⟨e1, e2⟩ := hD k
    refine ⟨e1, fun hh => ?_⟩
    obtain ⟨i, hi, hr⟩ := e2 hh
    exact ⟨i, by omega, hr⟩
end
theorem run_makeMapN (n : Int) (w : World) : (Instr.makeMap 61 (some (.int .i64 n))).run Try.prog w = .ok (.map (some w.heap.size)) (w.alloc (.map #[] 0)) := by
  simp [Instr.makeMap, run_underlying Try.underlying61, asInt, Result.andThen, go_sem]
end Go.Proofs.Ytcmekpdgikploaa
