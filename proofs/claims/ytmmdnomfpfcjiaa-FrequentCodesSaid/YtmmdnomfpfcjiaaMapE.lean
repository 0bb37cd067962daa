/- Two maps of the call's own: the keys seen so far (map[string]bool), and the positions of the keys (map[string]int). -/
import Derived.Test.YtmmdnomfpfcjiaaEnts
import Derived.Lib.Strings
import Derived.Lib.Bytealg
import Derived.Maps.OwnSet
import Derived.StringKeys
import Derived.Carry
namespace Go.Proofs.Ytmmdnomfpfcjiaa
open Go.RowKit Go.Maps
set_option linter.unusedVariables false
set_option linter.unusedSimpArgs false
def sameK (a b : ByteArray) : Bool := a.toList == b.toList
theorem data_inj {a b : ByteArray} (h : a.data.toList = b.data.toList) : a = b := by
  cases a; cases b
  simp only [ByteArray.mk.injEq]
  exact Array.toList_inj.1 h
theorem sameK_iff (a b : ByteArray) : sameK a b = true ↔ a = b := by
  unfold sameK
  rw [Lib.toList_data, Lib.toList_data, beq_iff_eq]
  exact ⟨data_inj, fun h => by rw [h]⟩
theorem sameK_self (a : ByteArray) : sameK a a = true := (sameK_iff a a).2 rfl
theorem sameK_comm (a b : ByteArray) : sameK a b = sameK b a := by
  rw [Bool.eq_iff_iff, sameK_iff, sameK_iff]
  exact eq_comm
/-- A key has an entry. -/
def hasK (L : List Ent) (k : ByteArray) : Bool := L.any (fun y => sameK y.k k)
theorem take_succE {L : List Ent} {j : Nat} (h : j < L.length) : L.take (j + 1) = L.take j ++ [L.getD j Ent.z] := by
  rw [List.take_succ_eq_append_getElem h]
  simp [List.getD, h]
theorem hasK_succ {L : List Ent} {j : Nat} (h : j < L.length) (k : ByteArray) : hasK (L.take (j + 1)) k = (hasK (L.take j) k || sameK (L.getD j Ent.z).k k) := by
  unfold hasK
  rw [take_succE h, List.any_append]
  simp
theorem law_str : Keyed Try.prog 9 := string_keyed Try.underlying9
theorem zero_bool (w : World) : (zeroValue 4).run Try.prog w = .ok (.bool false) w := by kernel_rfl
theorem zero_int (w : World) : (zeroValue 3).run Try.prog w = .ok (.int .i64 0) w := by kernel_rfl
theorem key_str {k : ByteArray} (h : k.size ≤ maxLen) : keyOf Try.prog 9 (.string k) = some (.string k.data.toList) := Go.WideMaps.keyOf_string_mk Try.underlying9 h
theorem ne_key {a b : ByteArray} (h : sameK a b = false) : (Lit.string b.data.toList) ≠ (Lit.string a.data.toList) := by
  intro e
  injection e with e
  have := (sameK_iff a b).2 (data_inj e).symm
  rw [h] at this
  cases this
theorem bool_inv {H : Type} {P : Program} {e : TypeId} (he : P.underlying e = some .bool) {v : Value} {x : Bool} {ps : List MemPlace} (h : plainElem (H := H) P e v = some (.lit (.bool x), ps)) : v = .bool x := by
  unfold plainElem at h
  rw [he] at h
  cases v <;> simp at h
  rw [h.1]
section
variable {w : World} {ops : Array Oper} {rest : List Oper} {o : Oper} {a : Act} {Q : Exit → Act → World → Prop}
/-- Block b holds the keys of the first j entries. -/
def SeenM (L : List Ent) (j b : Nat) (w : World) : Prop :=
  ∃ (D : DataW Unit) (n : Nat), n ≤ j ∧ w.ownsMap Try.prog 9 (plainElem Try.prog 4) b n D ∧ ∀ k : ByteArray, D.atKey (.string k.data.toList) (.lit (.bool false)) = .lit (.bool (hasK (L.take j) k))
theorem SeenM.kept {L : List Ent} {j b : Nat} {w w' : World} (h : SeenM L j b w) {row : Option Nat} (hg : w.grownBy w' row) (hne : some b ≠ row) : SeenM L j b w' := by
  obtain ⟨D, n, hn, ho, hk⟩ := h
  exact ⟨D, n, hn, ho.kept hg hne, hk⟩
theorem SeenM.lt {L : List Ent} {j b : Nat} {w : World} (h : SeenM L j b w) : b < w.heap.size := by
  obtain ⟨D, n, hn, ho, hk⟩ := h
  exact ho.lt
theorem ownsMap_blk {H : Type} {P : Program} {k : TypeId} {R : Value → Option (DataW H × List MemPlace)} {b n : Nat} {D : DataW H} {w w' : World} (h : w.ownsMap P k R b n D) (hb : w'.heap[b]? = w.heap[b]?) : w'.ownsMap P k R b n D := by
  obtain ⟨es, clock, hb', r⟩ := h
  exact ⟨es, clock, hb.trans hb', r⟩
theorem SeenM.below {L : List Ent} {j b : Nat} {w w' : World} (h : SeenM L j b w) (hb : Below w.heap.size w w') : SeenM L j b w' := by
  have hl := h.lt
  obtain ⟨D, n, hn, ho, hk⟩ := h
  exact ⟨D, n, hn, ownsMap_blk ho (hb.block b hl), hk⟩
theorem SeenM.new (L : List Ent) (w : World) : SeenM L 0 w.heap.size (w.alloc (.map #[] 0)) := ⟨.map [], 0, Nat.le_refl _, World.ownsMap_made _ _ _ _, fun k => rfl⟩
/-- Block b holds the positions of the keys of the first j entries. -/
def PosM (L : List Ent) (j b : Nat) (w : World) : Prop :=
  ∃ (D : DataW Unit) (n : Nat), n ≤ j ∧ w.ownsMap Try.prog 9 (plainElem Try.prog 3) b n D ∧
    ∀ k : ByteArray, Maps.has D (.string k.data.toList) = hasK (L.take j) k ∧ (hasK (L.take j) k = true → ∃ i : Nat, i < j ∧ sameK (L.getD i Ent.z).k k = true ∧ D.atKey (.string k.data.toList) (.lit (.int .i64 0)) = .lit (.int .i64 (i : Int)))
theorem PosM.lt {L : List Ent} {j b : Nat} {w : World} (h : PosM L j b w) : b < w.heap.size := by
  obtain ⟨D, n, hn, ho, hk⟩ := h
  exact ho.lt
theorem PosM.blk {L : List Ent} {j b : Nat} {w w' : World} (h : PosM L j b w) (hb : w'.heap[b]? = w.heap[b]?) : PosM L j b w' := by
  obtain ⟨D, n, hn, ho, hk⟩ := h
  exact ⟨D, n, hn, ownsMap_blk ho hb, hk⟩
theorem PosM.below {L : List Ent} {j b : Nat} {w w' : World} (h : PosM L j b w) (hb : Below w.heap.size w w') : PosM L j b w' := h.blk (hb.block b h.lt)
theorem PosM.drewN {L : List Ent} {j b : Nat} {w : World} (h : PosM L j b w) (n : Nat) : PosM L j b (w.drewN n) := h
theorem PosM.new (L : List Ent) (w : World) : PosM L 0 w.heap.size (w.alloc (.map #[] 0)) := ⟨.map [], 0, Nat.le_refl _, World.ownsMap_made _ _ _ _, fun k => ⟨rfl, fun h => by simp [hasK] at h⟩⟩
/-- What a look-up of a position gives: a position with this key, 0 if there is none. -/
def PosOf (L : List Ent) (j : Nat) (k : ByteArray) (c : Int) : Prop := (hasK (L.take j) k = true ∧ ∃ i : Nat, i < j ∧ sameK (L.getD i Ent.z).k k = true ∧ c = (i : Int)) ∨ (hasK (L.take j) k = false ∧ c = 0)
end
end Go.Proofs.Ytmmdnomfpfcjiaa
