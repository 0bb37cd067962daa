/- SameI, CmSame, FqO, FqP, StrRow, RkO: in one text. -/
import Derived.Test.YtcndobdbjillpaaGreatDoorPk02
import Derived.Test.YtcndobdbjillpaaGreatDoorPk01
import Derived.Test.YtcndobdbjillpaaGreatDoorPk03
import Derived.Test.YtcndobdbjillpaaGreatDoorPk07
import Derived.Test.YtcndobdbjillpaaGreatDoorPk00
import Derived.Test.YtcndobdbjillpaaGreatDoorPk05
import Derived.Test.YtcndobdbjillpaaGreatDoorPk04
import Derived.Test.YtcndobdbjillpaaGreatDoorProg
import Derived.Laws.Cover1
import Derived.Deep.RegionHeld3
import Derived.Laws.Cover3
import Derived.Laws.FloatArith
import Derived.Lib.SliceRun
import Derived.Deep.MidRow
import Derived.Shelf.Strconv.Itoa0
import Derived.Deep.RegionLaw
import Derived.OneCell
import Derived.ProofKit
import Derived.Handy
import Derived.Lib.Hide
import Derived.Lib.Split
namespace Go.Proofs.YtcndobdbjillpaaGreatDoor
open Go.RowKit
set_option linter.unusedVariables false
set_option linter.unusedSimpArgs false
theorem RdI.cellAt {L : List Int} {a : Option Addr} {n cap : Nat} {w w' : World} (h : RdI L (.slice a n cap) w) (hb : Below w.heap.size w w') {k : Nat} (hk : k < L.length) :
    n = L.length ∧ ∃ b off, a = some ⟨b, off, none⟩ ∧ b < w.heap.size ∧ w'.cell? ⟨b, off + k, none⟩ = some (.int .i64 (L.getD k 0)) := by
  obtain ⟨hy, a', cap', he, h1, h2, h3⟩ := h
  simp only [Value.slice.injEq] at he
  obtain ⟨rfl, rfl, rfl⟩ := he
  obtain ⟨b, off, rfl, hlt, hc⟩ := h3 (by omega)
  exact ⟨rfl, b, off, rfl, hlt, (hb.cell (p := ⟨b, off + k, none⟩) hlt).trans (hc k hk)⟩
set_option maxRecDepth 100000 in
theorem sameI_any (L : List Int) (v u : Value) (w : World) (hv : RdI L v w) (hu : RdI L u w) :
    Calls Tryz.prog 118 #[v, u] w fun e w' => e = .returned (.bool true) ∧ Below w.heap.size w w' := by
  obtain ⟨a, cap, rfl⟩ := hv.shape
  obtain ⟨a2, cap2, rfl⟩ := hu.shape
  have HV := Lib.hid hv
  have HU := Lib.hid hu
  have hl : (L.length : Int) ≤ 9223372036854775807 := by
    obtain ⟨_, _, _, _, h1, h2, _⟩ := hv
    unfold maxLen at h2
    omega
  clear hv hu
  go_enter Tryz.func118, Tryz.ntmps118
  go_wp2
  go_loopw [5] (fun i wr => ∃ k : Nat, k ≤ L.length ∧ i = .int .i64 (k : Int) ∧ Hid (Below w.heap.size w wr)) (fun i _ => L.length - (intOf i).toNat)
  case atStart => exact ⟨0, by omega, rfl, Lib.hid (Below.refl _ _)⟩
  case round =>
    obtain ⟨k, hk, rfl, HB⟩ := hrel
    by_cases hlt : k < L.length
    · obtain ⟨_, b, off, rfl, hb, hc⟩ := HV.out.cellAt HB.out hlt
      obtain ⟨_, b2, off2, rfl, hb2, hc2⟩ := HU.out.cellAt HB.out hlt
      have hki : (k : Int) < (L.length : Int) := by omega
      go_wp2
      go_quiet (fail)
      go_wp2
      go_roundw
      case rel => exact ⟨k + 1, by omega, by go_num, Lib.hid (below_drewN HB.out _)⟩
      case measure => simp [intOf]; omega
    · obtain rfl : k = L.length := by omega
      go_wp2
      go_ret
      exact ⟨rfl, HB.out⟩
end Go.Proofs.YtcndobdbjillpaaGreatDoor
namespace Go.Proofs.YtcndobdbjillpaaGreatDoor
open Go.RowKit
set_option linter.unusedVariables false
set_option linter.unusedSimpArgs false
set_option maxRecDepth 100000 in
theorem sameC_any (c : CM) (v u : Value) (w : World) (hv : RdC c v w) (hu : RdC c u w) :
    Calls Tryz.prog 49 #[v, u] w fun e w' => e = .returned (.bool true) ∧ Below w.heap.size w w' := by
  obtain ⟨D, S, x, L, s⟩ := c
  obtain ⟨a, n, cap, rfl, hR⟩ := hv
  obtain ⟨a2, n2, cap2, rfl, hR2⟩ := hu
  dsimp only at hR hR2 ⊢
  have hs := sameI_any L (.slice a n cap) (.slice a2 n2 cap2) ((w.alloc (.cells #[.int .i64 D, .int .i64 S, .int .u64 x, .slice a n cap, .bool s] 30)).alloc (.cells #[.int .i64 D, .int .i64 S, .int .u64 x, .slice a2 n2 cap2, .bool s] 30)) (hR.below (b2 _ _)) (hR2.below (b2 _ _))
  clear hR hR2
  go_enter Tryz.func49, Tryz.ntmps49
  go_wp2_with (go_at_call 118; refine hs.mono ?_; rintro e w2 ⟨rfl, hb2⟩; have B2 := Lib.hid (bgo (b2 _ _) hb2); clear hb2)
  go_ret
  exact ⟨rfl, B2.out⟩
end Go.Proofs.YtcndobdbjillpaaGreatDoor
namespace Go.Proofs.YtcndobdbjillpaaGreatDoor
open Go.RowKit
set_option linter.unusedVariables false
set_option linter.unusedSimpArgs false
theorem u8_triQ (a b : UInt8) : a < b ∨ a = b ∨ b < a := by
  by_cases h : a < b
  · exact .inl h
  · by_cases h2 : b < a
    · exact .inr (.inr h2)
    · exact .inr (.inl (UInt8.le_antisymm (UInt8.not_lt.1 h2) (UInt8.not_lt.1 h)))
theorem lessQ_cons (a b : UInt8) (xs ys : List UInt8) : Op.bytesLess (a :: xs) (b :: ys) = true ↔ a < b ∨ (a = b ∧ Op.bytesLess xs ys = true) := by
  conv => lhs; unfold Op.bytesLess
  simp
theorem lessQ_tri : ∀ a b : List UInt8, Op.bytesLess a b = true ∨ a = b ∨ Op.bytesLess b a = true
  | [], [] => .inr (.inl rfl)
  | [], _ :: _ => .inl (by simp [Op.bytesLess])
  | _ :: _, [] => .inr (.inr (by simp [Op.bytesLess]))
  | a :: xs, b :: ys => by
    rw [lessQ_cons, lessQ_cons]
    rcases u8_triQ a b with h | rfl | h
    · exact .inl (.inl h)
    · rcases lessQ_tri xs ys with h | rfl | h
      · exact .inl (.inr ⟨rfl, h⟩)
      · exact .inr (.inl rfl)
      · exact .inr (.inr (.inr ⟨rfl, h⟩))
    · exact .inr (.inr (.inl h))
theorem lessQ_trans : ∀ {a b c : List UInt8}, Op.bytesLess a b = true → Op.bytesLess b c = true → Op.bytesLess a c = true
  | [], _, [], h1, h2 => by
    rename_i b
    cases b <;> simp [Op.bytesLess] at h2
  | [], _, _ :: _, _, _ => by simp [Op.bytesLess]
  | a :: xs, [], _, h1, _ => by simp [Op.bytesLess] at h1
  | a :: xs, b :: ys, [], _, h2 => by simp [Op.bytesLess] at h2
  | a :: xs, b :: ys, c :: zs, h1, h2 => by
    rw [lessQ_cons] at h1 h2 ⊢
    rcases h1 with h1 | ⟨rfl, h1⟩
    · rcases h2 with h2 | ⟨rfl, h2⟩
      · exact .inl (UInt8.lt_trans h1 h2)
      · exact .inl h1
    · rcases h2 with h2 | ⟨rfl, h2⟩
      · exact .inl h2
      · exact .inr ⟨rfl, lessQ_trans h1 h2⟩
theorem lessQ_irr : ∀ a : List UInt8, Op.bytesLess a a = false
  | [] => by simp [Op.bytesLess]
  | a :: xs => by
    cases h : Op.bytesLess (a :: xs) (a :: xs) with
    | false => rfl
    | true =>
      rcases (lessQ_cons a a xs xs).1 h with h | ⟨_, h⟩
      · exact absurd h (UInt8.lt_irrefl a)
      · rw [lessQ_irr xs] at h; cases h
theorem toL_inj {a b : ByteArray} (h : a.toList = b.toList) : a = b := by
  rw [Lib.toList_data, Lib.toList_data] at h
  exact data_inj h
theorem lessK_tri (a b : ByteArray) : lessK a b = true ∨ a = b ∨ lessK b a = true := by
  unfold lessK
  rcases lessQ_tri a.toList b.toList with h | h | h
  · exact .inl h
  · exact .inr (.inl (toL_inj h))
  · exact .inr (.inr h)
theorem lessK_trans {a b c : ByteArray} (h : lessK a b = true) (k : lessK b c = true) : lessK a c = true := lessQ_trans h k
theorem lessK_irr (a : ByteArray) : lessK a a = false := lessQ_irr _
theorem lessK_asym {a b : ByteArray} (h : lessK a b = true) : lessK b a = false := by
  cases h2 : lessK b a with
  | false => rfl
  | true => have := lessK_trans h h2; rw [lessK_irr] at this; cases this
theorem lessK_ne {a b : ByteArray} (h : lessK a b = true) : sameK a b = false := by
  cases h2 : sameK a b with
  | false => rfl
  | true =>
    have := (sameK_iff a b).1 h2
    subst this
    rw [lessK_irr] at h
    cases h
theorem lessK_ne' {a b : ByteArray} (h : lessK a b = true) : sameK b a = false := by rw [sameK_comm]; exact lessK_ne h
/-- a < b; a = b; b < a: what Go's comparisons of strings give. -/
theorem cmp_lt {a b : ByteArray} (h : lessK a b = true) : Op.bytesLess a.toList b.toList = true ∧ (a.toList == b.toList) = false ∧ Op.bytesLess b.toList a.toList = false ∧ (b.toList == a.toList) = false := ⟨h, lessK_ne h, lessK_asym h, lessK_ne' h⟩
theorem cmp_eq (a : ByteArray) : Op.bytesLess a.toList a.toList = false ∧ (a.toList == a.toList) = true := ⟨lessK_irr a, by simp⟩
theorem lessK_empty {b : ByteArray} (h : keyB (byt b) = true) : lessK ⟨#[]⟩ b = true := by
  have hs : 0 < b.size := by
    unfold keyB at h
    rw [byt_len] at h
    simp at h
    omega
  unfold lessK
  have h2 := str_ne hs
  cases hb : b.toList with
  | nil => rw [hb] at h2; cases h2
  | cons x xs => rw [Lib.toList_data]; rfl
/-- The key ahead of position j. -/
def prevK (L : List Ent) (j : Nat) : ByteArray := if j = 0 then ⟨#[]⟩ else (L.getD (j - 1) Ent.z).k
theorem prevK_zero (L : List Ent) : prevK L 0 = ⟨#[]⟩ := rfl
theorem prevK_succ (L : List Ent) (j : Nat) : prevK L (j + 1) = (L.getD j Ent.z).k := by unfold prevK; rw [if_neg (by omega), Nat.add_sub_cancel]
theorem errQ_prev {L : List Ent} {j : Nat} (he : entQ (L.getD j Ent.z) = 0) : errQ L j = if lessK (prevK L j) (L.getD j Ent.z).k = false then 19 else 0 := by
  unfold errQ
  rw [if_neg (by simpa using he)]
  cases j with
  | zero =>
    rw [prevK_zero, lessK_empty (entQ_zero he).1, if_neg (by simp), if_neg (by simp)]
  | succ j =>
    rw [prevK_succ, Nat.add_sub_cancel]
    simp
theorem errQ_bad {L : List Ent} {j : Nat} (he : entQ (L.getD j Ent.z) ≠ 0) : errQ L j = entQ (L.getD j Ent.z) := by
  unfold errQ
  rw [if_pos he]
end Go.Proofs.YtcndobdbjillpaaGreatDoor
namespace Go.Proofs.YtcndobdbjillpaaGreatDoor
open Go.RowKit
set_option linter.unusedVariables false
set_option linter.unusedSimpArgs false
def newQE (S : Int) : Int := if S < 1 ∨ 32 < S then 5 else 0
def newQ (S : Int) : FQ := if S < 1 ∨ 32 < S then FQ.none else ⟨S, 0, 0, [], false⟩
end Go.Proofs.YtcndobdbjillpaaGreatDoor
namespace Go.Proofs.YtcndobdbjillpaaGreatDoor
open Go.RowKit
set_option linter.unusedVariables false
set_option linter.unusedSimpArgs false
def cellsS (L : List ByteArray) : List Value := L.map Value.string
theorem cellsS_at {L : List ByteArray} {j : Nat} (h : j < L.length) : (cellsS L)[j]? = some (.string (L.getD j ByteArray.empty)) := by simp [cellsS, List.getD, h]
def OwnS (B : Nat) (L : List ByteArray) (v : Value) (w : World) : Prop := w.ownsRow B 9 1 v L.length (cellsS L)
def RdS (L : List ByteArray) (v : Value) (w : World) : Prop :=
  ∃ a cap, v = .slice a L.length cap ∧ L.length ≤ cap ∧ cap ≤ maxLen ∧ (0 < L.length → ∃ b off, a = some ⟨b, off, none⟩ ∧ b < w.heap.size ∧ ∀ j, j < L.length → w.cell? ⟨b, off + j, none⟩ = some (.string (L.getD j ByteArray.empty)))
theorem RdS.below {L : List ByteArray} {v : Value} {w w' : World} (h : RdS L v w) (hb : Below w.heap.size w w') : RdS L v w' := by
  obtain ⟨a, cap, rfl, h1, h2, h3⟩ := h
  refine ⟨a, cap, rfl, h1, h2, fun hp => ?_⟩
  obtain ⟨b, off, rfl, hlt, hc⟩ := h3 hp
  exact ⟨b, off, rfl, Nat.lt_of_lt_of_le hlt hb.size, fun j hj => (hb.cell (p := ⟨b, off + j, none⟩) hlt).trans (hc j hj)⟩
theorem OwnS.rd {B : Nat} {L : List ByteArray} {v : Value} {w : World} (ho : OwnS B L v w) : RdS L v w := by
  have hl := World.ownsRow.lt ho
  rcases ho.2 with ⟨rfl, hn⟩ | ⟨g, cap, cur, rfl, hb, _, h1, h2, _⟩
  · exact ⟨none, 0, by rw [hn], by omega, by simp [maxLen], fun hp => by omega⟩
  · exact ⟨some ⟨g, 0, none⟩, cap, rfl, h1, h2, fun hp => ⟨g, 0, rfl, (hl g rfl).2, fun j hj => by
      rw [Nat.zero_add]; exact (World.ownsRow.cellAt ho j (by omega)).trans (cellsS_at hj)⟩⟩
theorem OwnS.alloc {B : Nat} {L : List ByteArray} {v : Value} {w : World} (h : OwnS B L v w) (o : Obj) : OwnS B L v (w.alloc o) := World.ownsRow.alloc h o
theorem OwnS.below {B : Nat} {L : List ByteArray} {v : Value} {w w' : World} (h : OwnS B L v w) (hb : Below w.heap.size w w') : OwnS B L v w' := by
  obtain ⟨h1, h2⟩ := h
  refine ⟨h1, ?_⟩
  rcases h2 with h2 | ⟨g, cap, cur, rfl, hb', hg, r⟩
  · exact .inl h2
  · exact .inr ⟨g, cap, cur, rfl, hb', (hb.block g (Array.getElem?_eq_some_iff.1 hg).1).trans hg, r⟩
theorem OwnS.mono {B B' : Nat} {L : List ByteArray} {v : Value} {w : World} (h : OwnS B L v w) (hB : B' ≤ B) : OwnS B' L v w := by
  obtain ⟨h1, h2⟩ := h
  refine ⟨h1, ?_⟩
  rcases h2 with h2 | ⟨g, cap, cur, rfl, hb, r⟩
  · exact .inl h2
  · exact .inr ⟨g, cap, cur, rfl, Nat.le_trans hB hb, r⟩
theorem OwnS.empty (B : Nat) (w : World) : OwnS B [] (.slice none 0 0) w := World.ownsRow_nil _ _ _ _
theorem OwnS.drewN {B : Nat} {L : List ByteArray} {v : Value} {w : World} (h : OwnS B L v w) (n : Nat) : OwnS B L v (w.drewN n) := h
/-- A whole new row. -/
theorem RdS.row (L : List ByteArray) (w : World) (hm : L.length ≤ maxLen) : RdS L (.slice (some ⟨w.heap.size, 0, none⟩) L.length L.length) (w.alloc (.cells (L.map Value.string).toArray 9)) := by
  refine ⟨_, _, rfl, Nat.le_refl _, hm, fun hp => ⟨w.heap.size, 0, rfl, by simp, fun j hj => ?_⟩⟩
  rw [Nat.zero_add, cell_of_row _ w.heap.size j (L.map Value.string).toArray 9 (0, 0) (Go.heap_alloc_new w _), List.getElem?_toArray]
  exact cellsS_at hj
section
variable {w : World}
end
end Go.Proofs.YtcndobdbjillpaaGreatDoor
namespace Go.Proofs.YtcndobdbjillpaaGreatDoor
open Go.RowKit
set_option linter.unusedVariables false
set_option linter.unusedSimpArgs false
theorem leK_trans {a b c : ByteArray} (h : lessK b a = false) (k : lessK c b = false) : lessK c a = false := by
  cases hc : lessK c a with
  | false => rfl
  | true =>
    rcases lessK_tri a b with h1 | h1 | h1
    · rw [lessK_trans hc h1] at k; cases k
    · subst h1; rw [hc] at k; cases k
    · rw [h1] at h; cases h
/-- No string is less than one ahead of it. -/
def Asc (L : List ByteArray) : Prop := L.Pairwise (fun x y => lessK y x = false)
theorem Asc.at_ {L : List ByteArray} (h : Asc L) {i j : Nat} (hij : i ≤ j) (hj : j < L.length) : lessK (L.getD j ByteArray.empty) (L.getD i ByteArray.empty) = false := by
  rw [show L.getD i ByteArray.empty = L[i]'(by omega) by simp [List.getD, show i < L.length by omega], show L.getD j ByteArray.empty = L[j] by simp [List.getD, hj]]
  rcases Nat.lt_or_ge i j with h1 | h1
  · exact List.pairwise_iff_getElem.1 h i j (by omega) hj h1
  · obtain rfl : i = j := by omega
    exact lessK_irr _
end Go.Proofs.YtcndobdbjillpaaGreatDoor
