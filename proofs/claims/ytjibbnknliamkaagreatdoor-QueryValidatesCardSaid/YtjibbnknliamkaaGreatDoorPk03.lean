/- Ents, OrdE, SrtN, MapE: in one text. -/
import Derived.Test.YtjibbnknliamkaaGreatDoorProg
import Derived.Test.YtjibbnknliamkaaGreatDoorPk00
import Derived.Deep.RegionLaw
import Derived.Deep.QuietTactic
import Derived.Deep.RegionHeld3
import Derived.BigQuiet
import Derived.ProofKit
import Derived.Handy
import Derived.Lib.Hide
import Derived.Lib.Bytealg
import Derived.Lib.Strings
import Derived.Lib.Walk
import Derived.Maps.OwnSet
import Derived.StringKeys
import Derived.Carry
namespace Go.Proofs.YtjibbnknliamkaaGreatDoor
open Go.RowKit
set_option linter.unusedVariables false
set_option linter.unusedSimpArgs false
/-- An entry. -/
structure Ent where
  k : ByteArray
  c : Int
  e : Int
def Ent.z : Ent := ⟨ByteArray.empty, 0, 0⟩
/-- What a value of the type can be. -/
def Ent.ok (x : Ent) : Prop := x.k.size ≤ maxLen ∧ (-9223372036854775808 ≤ x.c ∧ x.c ≤ 9223372036854775807) ∧ (-9223372036854775808 ≤ x.e ∧ x.e ≤ 9223372036854775807)
theorem Ent.z_ok : Ent.z.ok := ⟨by decide, by decide, by decide⟩
def Ent.cs (x : Ent) : List Value := [.string x.k, .int .i64 x.c, .int .i64 x.e]
def cellsE : List Ent → List Value
  | [] => []
  | x :: L => x.cs ++ cellsE L
theorem cellsE_len : ∀ L : List Ent, (cellsE L).length = L.length * 3
  | [] => rfl
  | x :: L => by simp only [cellsE, List.length_append, cellsE_len L, List.length_cons, Ent.cs, List.length_nil]; omega
theorem cellsE_take : ∀ (L : List Ent) (n : Nat), cellsE (L.take n) = (cellsE L).take (n * 3)
  | [], n => by simp [cellsE]
  | x :: L, 0 => by simp [cellsE]
  | x :: L, n + 1 => by
    rw [List.take_succ_cons, show (n + 1) * 3 = n * 3 + 1 + 1 + 1 by omega]
    simp only [cellsE, Ent.cs, List.cons_append, List.nil_append, List.take_succ_cons, cellsE_take L n]
theorem cellsE_at : ∀ {L : List Ent} {j : Nat}, j < L.length → (cellsE L)[j * 3]? = some (.string (L.getD j Ent.z).k) ∧ (cellsE L)[j * 3 + 1]? = some (.int .i64 (L.getD j Ent.z).c) ∧ (cellsE L)[j * 3 + 2]? = some (.int .i64 (L.getD j Ent.z).e)
  | [], j, h => by simp at h
  | x :: L, 0, h => ⟨rfl, rfl, rfl⟩
  | x :: L, j + 1, h => by
    have := cellsE_at (L := L) (j := j) (by simp at h; omega)
    rw [show (j + 1) * 3 = j * 3 + 1 + 1 + 1 by omega, show j * 3 + 1 + 1 + 1 + 1 = j * 3 + 1 + 1 + 1 + 1 from rfl]
    simp only [cellsE, Ent.cs, List.cons_append, List.nil_append]
    simp only [List.getD_eq_getElem?_getD, List.getElem?_cons_succ] at this ⊢
    exact this
theorem cellsE_set : ∀ (L : List Ent) (j : Nat) (x : Ent), cellsE (L.set j x) = (((cellsE L).set (j * 3) (.string x.k)).set (j * 3 + 1) (.int .i64 x.c)).set (j * 3 + 2) (.int .i64 x.e)
  | [], j, x => by simp [cellsE]
  | y :: L, 0, x => by simp [cellsE, Ent.cs]
  | y :: L, j + 1, x => by
    rw [show (j + 1) * 3 = j * 3 + 1 + 1 + 1 by omega]
    simp only [List.set_cons_succ, cellsE, Ent.cs, List.cons_append, List.nil_append, cellsE_set L j x]
def EOk (L : List Ent) : Prop := ∀ x ∈ L, x.ok
theorem EOk.nil : EOk [] := fun _ h => by cases h
theorem EOk.at_ {L : List Ent} (h : EOk L) (j : Nat) : (L.getD j Ent.z).ok := by
  by_cases hk : j < L.length
  · have := h L[j] (List.getElem_mem hk)
    simpa [List.getD, hk] using this
  · have e : L.getD j Ent.z = Ent.z := by simp [List.getD, List.getElem?_eq_none (Nat.le_of_not_lt hk)]
    rw [e]
    exact Ent.z_ok
theorem EOk.set {L : List Ent} (h : EOk L) (j : Nat) {x : Ent} (hx : x.ok) : EOk (L.set j x) := fun y hy => by
  rcases List.mem_or_eq_of_mem_set hy with h' | rfl
  · exact h y h'
  · exact hx
theorem EOk.take {L : List Ent} (h : EOk L) (n : Nat) : EOk (L.take n) := fun y hy => h y (List.mem_of_mem_take hy)
/-- A slice of entries of the call's own. -/
def OwnE (B : Nat) (L : List Ent) (v : Value) (w : World) : Prop := EOk L ∧ w.ownsRow B 64 3 v L.length (cellsE L)
/-- Three cells that hold an entry. -/
def At3 (x : Ent) (b o : Nat) (w : World) : Prop := w.cell? ⟨b, o, none⟩ = some (.string x.k) ∧ w.cell? ⟨b, o + 1, none⟩ = some (.int .i64 x.c) ∧ w.cell? ⟨b, o + 2, none⟩ = some (.int .i64 x.e)
theorem At3.below {x : Ent} {b o B : Nat} {w w' : World} (h : At3 x b o w) (hb : Below B w w') (hlt : b < B) : At3 x b o w' :=
  ⟨(hb.cell (p := ⟨b, o, none⟩) hlt).trans h.1, (hb.cell (p := ⟨b, o + 1, none⟩) hlt).trans h.2.1, (hb.cell (p := ⟨b, o + 2, none⟩) hlt).trans h.2.2⟩
/-- A slice of entries that can be read. -/
def RdE (L : List Ent) (v : Value) (w : World) : Prop :=
  EOk L ∧ ∃ a cap, v = .slice a L.length cap ∧ L.length ≤ cap ∧ cap ≤ maxLen ∧ (0 < L.length → ∃ b off, a = some ⟨b, off, none⟩ ∧ b < w.heap.size ∧ ∀ j, j < L.length → At3 (L.getD j Ent.z) b (off + j * 3) w)
theorem RdE.below {L : List Ent} {v : Value} {w w' : World} (h : RdE L v w) (hb : Below w.heap.size w w') : RdE L v w' := by
  obtain ⟨hy, a, cap, rfl, h1, h2, h3⟩ := h
  refine ⟨hy, a, cap, rfl, h1, h2, fun hp => ?_⟩
  obtain ⟨b, off, rfl, hlt, hc⟩ := h3 hp
  exact ⟨b, off, rfl, Nat.lt_of_lt_of_le hlt hb.size, fun j hj => (hc j hj).below hb hlt⟩
theorem RdE.drewN {L : List Ent} {v : Value} {w : World} (h : RdE L v w) (n : Nat) : RdE L v (w.drewN n) := h
theorem RdE.shape {L : List Ent} {v : Value} {w : World} (h : RdE L v w) : ∃ a cap, v = .slice a L.length cap := by
  obtain ⟨_, a, cap, rfl, _⟩ := h
  exact ⟨a, cap, rfl⟩
theorem OwnE.cellsAt {B : Nat} {L : List Ent} {g cap : Nat} {w : World} (h : OwnE B L (.slice (some ⟨g, 0, none⟩) L.length cap) w) {j : Nat} (hj : j < L.length) : At3 (L.getD j Ent.z) g (j * 3) w := by
  obtain ⟨hy, ho⟩ := h
  obtain ⟨c0, c1, c2⟩ := cellsE_at hj
  exact ⟨(World.ownsRow.cellAt ho _ (by omega)).trans c0, (World.ownsRow.cellAt ho _ (by omega)).trans c1, (World.ownsRow.cellAt ho _ (by omega)).trans c2⟩
theorem OwnE.rd {B : Nat} {L : List Ent} {v : Value} {w : World} (h : OwnE B L v w) : RdE L v w := by
  have h' := h
  obtain ⟨hy, ho⟩ := h
  have hl := World.ownsRow.lt ho
  refine ⟨hy, ?_⟩
  rcases ho.2 with ⟨rfl, hn⟩ | ⟨g, cap, cur, rfl, hb, _, h1, h2, _⟩
  · exact ⟨none, 0, by rw [hn], by omega, by simp [maxLen], fun hp => by omega⟩
  · exact ⟨some ⟨g, 0, none⟩, cap, rfl, h1, h2, fun hp => ⟨g, 0, rfl, (hl g rfl).2, fun j hj => by
      rw [Nat.zero_add]; exact h'.cellsAt hj⟩⟩
theorem OwnE.mono {B B' : Nat} {L : List Ent} {v : Value} {w : World} (h : OwnE B L v w) (hB : B' ≤ B) : OwnE B' L v w := by
  obtain ⟨hy, h1, h2⟩ := h
  refine ⟨hy, h1, ?_⟩
  rcases h2 with h2 | ⟨g, cap, cur, rfl, hb, r⟩
  · exact .inl h2
  · exact .inr ⟨g, cap, cur, rfl, Nat.le_trans hB hb, r⟩
theorem OwnE.alloc {B : Nat} {L : List Ent} {v : Value} {w : World} (h : OwnE B L v w) (o : Obj) : OwnE B L v (w.alloc o) := ⟨h.1, World.ownsRow.alloc h.2 o⟩
theorem OwnE.below {B : Nat} {L : List Ent} {v : Value} {w w' : World} (h : OwnE B L v w) (hb : Below w.heap.size w w') : OwnE B L v w' := by
  obtain ⟨hy, h1, h2⟩ := h
  refine ⟨hy, h1, ?_⟩
  rcases h2 with h2 | ⟨g, cap, cur, rfl, hb', hg, r⟩
  · exact .inl h2
  · exact .inr ⟨g, cap, cur, rfl, hb', (hb.block g (Array.getElem?_eq_some_iff.1 hg).1).trans hg, r⟩
theorem OwnE.empty (B : Nat) (w : World) : OwnE B [] (.slice none 0 0) w := ⟨EOk.nil, World.ownsRow_nil _ _ _ _⟩
theorem OwnE.drewN {B : Nat} {L : List Ent} {v : Value} {w : World} (h : OwnE B L v w) (n : Nat) : OwnE B L v (w.drewN n) := h
/-- It stays where a block below it is written. -/
theorem OwnE.keep {B b : Nat} {L : List Ent} {v : Value} {w : World} (h : OwnE B L v w) (hb : b < B) (o : Nat) (u : Value) : OwnE B L v (w.setCell ⟨b, o, none⟩ u) := ⟨h.1, ownsRow_setCell_below h.2 hb u⟩
section
variable {w : World}
end
/-- An own slice with an entry: its block. -/
theorem OwnE.block {B : Nat} {L : List Ent} {a : Option Addr} {n cap : Nat} {w : World} (h : OwnE B L (.slice a n cap) w) (hp : 0 < L.length) : ∃ g, a = some ⟨g, 0, none⟩ ∧ B ≤ g ∧ g < w.heap.size ∧ n = L.length ∧ L.length ≤ cap ∧ cap ≤ maxLen := by
  have ho := h.2
  rcases ho.2 with ⟨he, hn⟩ | ⟨g, cap', cur, he, hb, _, h1, h2, _⟩
  · omega
  · simp only [Value.slice.injEq] at he
    obtain ⟨rfl, hnl, rfl⟩ := he
    exact ⟨g, rfl, hb, (World.ownsRow.lt ho g rfl).2, hnl, h1, h2⟩
/-- What a store of an entry's three cells leaves. -/
theorem OwnE.stored {B : Nat} {L : List Ent} {g cap : Nat} {w : World} (h : OwnE B L (.slice (some ⟨g, 0, none⟩) L.length cap) w) (j : Nat) {x : Ent} (hx : x.ok) :
    OwnE B (L.set j x) (.slice (some ⟨g, 0, none⟩) L.length cap) (((w.setCell ⟨g, j * 3, none⟩ (.string x.k)).setCell ⟨g, j * 3 + 1, none⟩ (.int .i64 x.c)).setCell ⟨g, j * 3 + 2, none⟩ (.int .i64 x.e)) := by
  obtain ⟨hy, ho⟩ := h
  refine ⟨hy.set j hx, ?_⟩
  have h1 := (World.ownsRow.stored ho (j * 3) (.string x.k)).1
  have h2 := (World.ownsRow.stored h1 (j * 3 + 1) (.int .i64 x.c)).1
  have h3 := (World.ownsRow.stored h2 (j * 3 + 2) (.int .i64 x.e)).1
  rw [List.length_set, cellsE_set]
  exact h3
theorem OwnE.frozen {B : Nat} {L : List Ent} {g cap : Nat} {w : World} (h : OwnE B L (.slice (some ⟨g, 0, none⟩) L.length cap) w) (j : Nat) : w.frozen? ⟨g, j, none⟩ = false := World.ownsRow.frozenAt h.2 j
end Go.Proofs.YtjibbnknliamkaaGreatDoor
namespace Go.Proofs.YtjibbnknliamkaaGreatDoor
open Go.RowKit
set_option linter.unusedVariables false
set_option linter.unusedSimpArgs false
def lessK (a b : ByteArray) : Bool := Op.bytesLess a.toList b.toList
/-- x comes before y. -/
def bef (x y : Ent) : Bool := decide (y.c < x.c) || (x.c == y.c && lessK x.k y.k)
def cmpI (a b : Int) : Int := if a < b then -1 else if b < a then 1 else 0
def cmpE (x y : Ent) : Int := if cmpI y.c x.c ≠ 0 then cmpI y.c x.c else Lib.compareBytes x.k.data.toList y.k.data.toList
theorem cmpB_bd : ∀ a b : List UInt8, -1 ≤ Lib.compareBytes a b ∧ Lib.compareBytes a b ≤ 1
  | [], [] => by decide
  | [], _ :: _ => by simp [Lib.compareBytes]
  | _ :: _, [] => by simp [Lib.compareBytes]
  | a :: xs, b :: ys => by
    unfold Lib.compareBytes
    have := cmpB_bd xs ys
    split
    · omega
    · split <;> omega
theorem cmpB_less : ∀ a b : List UInt8, decide (Lib.compareBytes a b < 0) = Op.bytesLess a b
  | [], [] => by decide
  | [], _ :: _ => by simp [Lib.compareBytes, Op.bytesLess]
  | _ :: _, [] => by simp [Lib.compareBytes, Op.bytesLess]
  | a :: xs, b :: ys => by
    have ih := cmpB_less xs ys
    unfold Lib.compareBytes Op.bytesLess
    by_cases h : a < b
    · simp [h]
    · by_cases h2 : b < a
      · have hne : (a == b) = false := by
          rw [beq_eq_false_iff_ne]
          rintro rfl
          exact absurd h2 h
        simp [h, h2, hne]
      · have he : a = b := by
          have h3 := UInt8.le_antisymm (UInt8.not_lt.1 h2) (UInt8.not_lt.1 h)
          exact h3
        subst he
        simp only [h, if_false, decide_false, Bool.false_or, beq_self_eq_true, Bool.true_and]
        exact ih
theorem cmpI_bd (a b : Int) : -1 ≤ cmpI a b ∧ cmpI a b ≤ 1 := by
  unfold cmpI
  split
  · omega
  · split <;> omega
theorem cmpE_bd (x y : Ent) : -1 ≤ cmpE x y ∧ cmpE x y ≤ 1 := by
  unfold cmpE
  split
  · exact cmpI_bd _ _
  · exact cmpB_bd _ _
theorem cmpE_bef (x y : Ent) : decide (cmpE x y < 0) = bef x y := by
  unfold cmpE bef lessK cmpI
  rw [Lib.toList_data, Lib.toList_data, ← cmpB_less]
  by_cases h : y.c < x.c
  · simp [h]
  · by_cases h2 : x.c < y.c
    · have : (x.c == y.c) = false := by rw [beq_eq_false_iff_ne]; omega
      simp [h, h2, this]
    · have : x.c = y.c := by omega
      simp [h, h2, this]
theorem nan_any (a : Int) (w : World) : Calls Tryz.prog 131 #[.int .i64 a] w fun e w' => e = .returned (.bool false) ∧ w = w' := by
  go_enter Tryz.func131, Tryz.ntmps131
  go_wp2
  go_ret
  exact ⟨by simp, rfl⟩
theorem cmpi_any (a b : Int) (w : World) : Calls Tryz.prog 93 #[.int .i64 a, .int .i64 b] w fun e w' => e = .returned (.int .i64 (cmpI a b)) ∧ w = w' := by
  unfold cmpI
  go_enter Tryz.func93, Tryz.ntmps93
  go_wp2_with (go_at_call 131; refine (nan_any _ _).mono ?_; rintro e w' ⟨rfl, rfl⟩)
  all_goals
    go_ret
    exact ⟨ret_int (by simp [*] <;> omega), rfl⟩
set_option maxRecDepth 100000 in
theorem cmpstr_any (a b : ByteArray) (w : World) : Calls Tryz.prog 132 #[.string a, .string b] w fun e w' => e = .returned (.int .i64 (Lib.compareBytes a.data.toList b.data.toList)) ∧ w = w' := by
  have hx := run_callFunc_extern Tryz.func173 (by kernel_rfl) (by kernel_rfl) (by kernel_rfl) (e := Extern.BytealgCompare.compare) (by kernel_rfl)
  go_enter Tryz.func132, Tryz.ntmps132
  go_wp2
  rw [Lib.run_compareString]
  simp only [Result.andThen]
  rw [Oper.upon_value]
  go_wp2
  go_ret
  exact ⟨rfl, rfl⟩
theorem scmp_any (a b : ByteArray) (w : World) : Calls Tryz.prog 94 #[.string a, .string b] w fun e w' => e = .returned (.int .i64 (Lib.compareBytes a.data.toList b.data.toList)) ∧ w = w' := by
  go_enter Tryz.func94, Tryz.ntmps94
  go_wp2_with (go_at_call 132; refine (cmpstr_any _ _ _).mono ?_; rintro e w' ⟨rfl, rfl⟩)
  go_ret
  exact ⟨rfl, rfl⟩
/-- The first of two that is not zero. -/
def or2 (a b : Int) : Int := if a ≠ 0 then a else b
set_option maxRecDepth 100000 in
theorem or_any (a b : Int) (g : Nat) (w : World) (h0 : w.cell? ⟨g, 0, none⟩ = some (.int .i64 a)) (h1 : w.cell? ⟨g, 1, none⟩ = some (.int .i64 b)) :
    Calls Tryz.prog 92 #[.slice (some ⟨g, 0, none⟩) 2 2] w fun e w' => e = .returned (.int .i64 (or2 a b)) ∧ w = w' := by
  unfold or2
  by_cases ha : a = 0
  · subst ha
    rw [if_neg (by decide)]
    by_cases hb : b = 0
    · subst hb
      go_enter Tryz.func92, Tryz.ntmps92
      go_wp2
      go_loop [5, 8] (fun _ i => i = .int .i64 0 ∨ i = .int .i64 1 ∨ i = .int .i64 2) (fun _ i => 2 - (intOf i).toNat)
      case atStart => exact .inl rfl
      case round =>
        rcases hrel with rfl | rfl | rfl
        · go_wp2
          go_round
          case rel => exact .inr (.inl rfl)
          case measure => simp [intOf]
        · go_wp2
          go_round
          case rel => exact .inr (.inr rfl)
          case measure => simp [intOf]
        · go_wp2
          go_ret
          exact ⟨rfl, rfl⟩
    · have hb2 : (b != 0) = true := by simp [hb]
      clear hb
      go_enter Tryz.func92, Tryz.ntmps92
      go_wp2
      go_loop [5, 8] (fun _ i => i = .int .i64 0 ∨ i = .int .i64 1) (fun _ i => 2 - (intOf i).toNat)
      case atStart => exact .inl rfl
      case round =>
        rcases hrel with rfl | rfl
        · go_wp2
          go_round
          case rel => exact .inr rfl
          case measure => simp [intOf]
        · go_wp2
          go_ret
          exact ⟨rfl, rfl⟩
  · rw [if_pos ha]
    have ha2 : (a != 0) = true := by simp [ha]
    clear ha
    go_enter Tryz.func92, Tryz.ntmps92
    go_wp2
    go_loop [5, 8] (fun _ i => i = .int .i64 0) (fun _ i => 2 - (intOf i).toNat)
    case atStart => rfl
    case round =>
      obtain rfl := hrel
      go_wp2
      go_ret
      exact ⟨rfl, rfl⟩
theorem or2_cmp (x y : Ent) : or2 (cmpI y.c x.c) (Lib.compareBytes x.k.data.toList y.k.data.toList) = cmpE x y := rfl
end Go.Proofs.YtjibbnknliamkaaGreatDoor
namespace Go.Proofs.YtjibbnknliamkaaGreatDoor
open Go.RowKit
set_option linter.unusedVariables false
set_option linter.unusedSimpArgs false
theorem EOk.drop {L : List Ent} (h : EOk L) (n : Nat) : EOk (L.drop n) := fun y hy => h y (List.mem_of_mem_drop hy)
end Go.Proofs.YtjibbnknliamkaaGreatDoor
namespace Go.Proofs.YtjibbnknliamkaaGreatDoor
open Go.RowKit Go.Maps
set_option linter.unusedVariables false
set_option linter.unusedSimpArgs false
def sameK (a b : ByteArray) : Bool := a.toList == b.toList
theorem data_inj {a b : ByteArray} (h : a.data.toList = b.data.toList) : a = b := by
  cases a; cases b
  simp only [ByteArray.mk.injEq]
  exact Array.toList_inj.1 h
theorem sameK_iff (a b : ByteArray) : sameK a b = true ↔ a = b := by
  unfold sameK
  rw [Lib.toList_data, Lib.toList_data, beq_iff_eq]
  exact ⟨data_inj, fun h => by rw [h]⟩
theorem sameK_comm (a b : ByteArray) : sameK a b = sameK b a := by
  rw [Bool.eq_iff_iff, sameK_iff, sameK_iff]
  exact eq_comm
/-- A key has an entry. -/
def hasK (L : List Ent) (k : ByteArray) : Bool := L.any (fun y => sameK y.k k)
theorem take_succE {L : List Ent} {j : Nat} (h : j < L.length) : L.take (j + 1) = L.take j ++ [L.getD j Ent.z] := by
  rw [List.take_succ_eq_append_getElem h]
  simp [List.getD, h]
theorem hasK_succ {L : List Ent} {j : Nat} (h : j < L.length) (k : ByteArray) : hasK (L.take (j + 1)) k = (hasK (L.take j) k || sameK (L.getD j Ent.z).k k) := by
  unfold hasK
  rw [take_succE h, List.any_append]
  simp
theorem law_str : Keyed Tryz.prog 9 := string_keyed Tryz.underlying9
theorem zero_bool (w : World) : (zeroValue 4).run Tryz.prog w = .ok (.bool false) w := by kernel_rfl
theorem key_str {k : ByteArray} (h : k.size ≤ maxLen) : keyOf Tryz.prog 9 (.string k) = some (.string k.data.toList) := Go.WideMaps.keyOf_string_mk Tryz.underlying9 h
theorem ne_key {a b : ByteArray} (h : sameK a b = false) : (Lit.string b.data.toList) ≠ (Lit.string a.data.toList) := by
  intro e
  injection e with e
  have := (sameK_iff a b).2 (data_inj e).symm
  rw [h] at this
  cases this
theorem bool_inv {H : Type} {P : Program} {e : TypeId} (he : P.underlying e = some .bool) {v : Value} {x : Bool} {ps : List MemPlace} (h : plainElem (H := H) P e v = some (.lit (.bool x), ps)) : v = .bool x := by
  unfold plainElem at h
  rw [he] at h
  cases v <;> simp at h
  rw [h.1]
section
variable {w : World} {ops : Array Oper} {rest : List Oper} {o : Oper} {a : Act} {Q : Exit → Act → World → Prop}
/-- Block b holds the keys of the first j entries. -/
def SeenM (L : List Ent) (j b : Nat) (w : World) : Prop :=
  ∃ (D : DataW Unit) (n : Nat), n ≤ j ∧ w.ownsMap Tryz.prog 9 (plainElem Tryz.prog 4) b n D ∧ ∀ k : ByteArray, D.atKey (.string k.data.toList) (.lit (.bool false)) = .lit (.bool (hasK (L.take j) k))
theorem SeenM.lt {L : List Ent} {j b : Nat} {w : World} (h : SeenM L j b w) : b < w.heap.size := by
  obtain ⟨D, n, hn, ho, hk⟩ := h
  exact ho.lt
theorem ownsMap_blk {H : Type} {P : Program} {k : TypeId} {R : Value → Option (DataW H × List MemPlace)} {b n : Nat} {D : DataW H} {w w' : World} (h : w.ownsMap P k R b n D) (hb : w'.heap[b]? = w.heap[b]?) : w'.ownsMap P k R b n D := by
  obtain ⟨es, clock, hb', r⟩ := h
  exact ⟨es, clock, hb.trans hb', r⟩
theorem SeenM.below {L : List Ent} {j b : Nat} {w w' : World} (h : SeenM L j b w) (hb : Below w.heap.size w w') : SeenM L j b w' := by
  have hl := h.lt
  obtain ⟨D, n, hn, ho, hk⟩ := h
  exact ⟨D, n, hn, ownsMap_blk ho (hb.block b hl), hk⟩
theorem SeenM.new (L : List Ent) (w : World) : SeenM L 0 w.heap.size (w.alloc (.map #[] 0)) := ⟨.map [], 0, Nat.le_refl _, World.ownsMap_made _ _ _ _, fun k => rfl⟩
theorem wp_seen_look (hgd : o.guard = none) (m x : Operand) (hop : o.op = Op.lookup 180 m x false) (L : List Ent) (j b : Nat) (k : ByteArray) (hm : a.eval m = .map (some b)) (hx : a.eval x = .string k)
    (h : SeenM L j b w) (hk : k.size ≤ maxLen) (hK : wpList Tryz.prog ops Q rest (a.put o.dst (.bool (hasK (L.take j) k))) w) : wpList Tryz.prog ops Q (o :: rest) a w := by
  obtain ⟨D, n, hn, ho, hD⟩ := h
  obtain ⟨v, ps, hrun, hR⟩ := ho.lookup law_str Tryz.underlying180 (zero_bool w) (plainElem_bool Tryz.underlying4 false) (key_str hk)
  rw [hD] at hR
  have hv := bool_inv Tryz.underlying4 hR
  subst hv
  refine wpList_plain hgd fun K' hK' => ?_
  unfold Oper.wp
  simp [execOp, hop, hm, hx, hrun, Result.andThen]
  exact hK' _ _ hK
theorem wp_seen_put (hgd : o.guard = none) (m x v : Operand) (hop : o.op = Op.mapUpdate 180 m x v) (L : List Ent) (j b : Nat) (k0 : ByteArray) (hkk : (L.getD j Ent.z).k = k0) (hj : j < L.length) (hm : a.eval m = .map (some b)) (hx : a.eval x = .string k0) (hv : a.eval v = .bool true)
    (h : SeenM L j b w) (hk : k0.size ≤ maxLen) (hjm : j < maxLen) (hK : ∀ w', SeenM L (j + 1) b w' → w.grownBy w' (some b) → wpList Tryz.prog ops Q rest (a.put o.dst undef) w') : wpList Tryz.prog ops Q (o :: rest) a w := by
  subst hkk
  obtain ⟨D, n, hn, ho, hD⟩ := h
  refine wpList_mapUpdate_own w hgd m x v 180 hop 9 4 law_str Tryz.underlying180 (plainElem Tryz.prog 4) b n D hm ho (by omega) _ _ _ hx hv (key_str hk) _ [] (plainElem_bool Tryz.underlying4 true) ?_
  intro w' h1 h2
  refine hK w' ⟨_, n + 1, by omega, h1, fun k => ?_⟩ h2
  rw [hasK_succ hj]
  cases hs : sameK (L.getD j Ent.z).k k with
  | true =>
    have := (sameK_iff _ _).1 hs
    subst this
    rw [atKey_put_same ho.isMap (by simp [WideAt.IsKeyLit])]
    simp
  | false =>
    rw [atKey_put_other (ne_key hs), hD, Bool.or_false]
end
end Go.Proofs.YtjibbnknliamkaaGreatDoor
