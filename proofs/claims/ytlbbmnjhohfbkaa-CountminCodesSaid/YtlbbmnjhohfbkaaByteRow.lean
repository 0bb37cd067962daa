/- Slices of bytes: the call's own (Own), and such as can be read (Rd). -/
import Derived.Test.YtlbbmnjhohfbkaaProg
import Derived.Test.YtlbbmnjhohfbkaaSrc
import Derived.Test.YtlbbmnjhohfbkaaWireNums
import Derived.Laws.BytesArg
import Derived.ProofKit
import Derived.Handy
import Derived.Lib.Hide
namespace Go.Proofs.Ytlbbmnjhohfbkaa
open Go.RowKit
set_option linter.unusedVariables false
set_option linter.unusedSimpArgs false
theorem info_u8 : (Try.prog.info? 5).map (fun i => (i.zero, i.size, i.bytes)) = some (some (.int .u8 0), 1, 1) := by kernel_rfl
def cells8 (L : List Int) : List Value := L.map (Value.int .u8)
theorem cells8_len (L : List Int) : (cells8 L).length = L.length := by simp [cells8]
theorem cells8_at {L : List Int} {j : Nat} (h : j < L.length) : (cells8 L)[j]? = some (.int .u8 (L.getD j 0)) := by simp [cells8, List.getD, h]
theorem cells8_app (L M : List Int) : cells8 (L ++ M) = cells8 L ++ cells8 M := by simp [cells8]
/-- A slice of bytes of the call's own. -/
def Own (B : Nat) (L : List Int) (v : Value) (w : World) : Prop := Byt L ∧ w.ownsRow B 5 1 v L.length (cells8 L)
/-- A slice of bytes that can be read. -/
def Rd (L : List Int) (v : Value) (w : World) : Prop :=
  Byt L ∧ ∃ a cap, v = .slice a L.length cap ∧ L.length ≤ cap ∧ cap ≤ maxLen ∧ (0 < L.length → ∃ b off, a = some ⟨b, off, none⟩ ∧ b < w.heap.size ∧ ∀ j, j < L.length → w.cell? ⟨b, off + j, none⟩ = some (.int .u8 (L.getD j 0)))
theorem Rd.below {L : List Int} {v : Value} {w w' : World} (h : Rd L v w) (hb : Below w.heap.size w w') : Rd L v w' := by
  obtain ⟨hy, a, cap, rfl, h1, h2, h3⟩ := h
  refine ⟨hy, a, cap, rfl, h1, h2, fun hp => ?_⟩
  obtain ⟨b, off, rfl, hlt, hc⟩ := h3 hp
  exact ⟨b, off, rfl, Nat.lt_of_lt_of_le hlt hb.size, fun j hj => (hb.cell (p := ⟨b, off + j, none⟩) hlt).trans (hc j hj)⟩
theorem Own.rd {B : Nat} {L : List Int} {v : Value} {w : World} (h : Own B L v w) : Rd L v w := by
  obtain ⟨hy, ho⟩ := h
  have hl := World.ownsRow.lt ho
  refine ⟨hy, ?_⟩
  rcases ho.2 with ⟨rfl, hn⟩ | ⟨g, cap, cur, rfl, hb, _, h1, h2, _⟩
  · exact ⟨none, 0, by rw [hn], by omega, by simp [maxLen], fun hp => by omega⟩
  · exact ⟨some ⟨g, 0, none⟩, cap, rfl, h1, h2, fun hp => ⟨g, 0, rfl, (hl g rfl).2, fun j hj => by
      rw [Nat.zero_add]; exact (World.ownsRow.cellAt ho j (by omega)).trans (cells8_at hj)⟩⟩
theorem Own.shape {B : Nat} {L : List Int} {v : Value} {w : World} (h : Own B L v w) : ∃ a cap, v = .slice a L.length cap := by
  obtain ⟨_, a, cap, rfl, _⟩ := h.rd
  exact ⟨a, cap, rfl⟩
/-- Owned from a higher block on. -/
theorem Own.mono {B B' : Nat} {L : List Int} {v : Value} {w : World} (h : Own B L v w) (hB : B' ≤ B) : Own B' L v w := by
  obtain ⟨hy, h1, h2⟩ := h
  refine ⟨hy, h1, ?_⟩
  rcases h2 with h2 | ⟨g, cap, cur, rfl, hb, r⟩
  · exact .inl h2
  · exact .inr ⟨g, cap, cur, rfl, Nat.le_trans hB hb, r⟩
theorem Own.alloc {B : Nat} {L : List Int} {v : Value} {w : World} (h : Own B L v w) (o : Obj) : Own B L v (w.alloc o) := ⟨h.1, World.ownsRow.alloc h.2 o⟩
/-- What is owned stays owned where nothing old turns. -/
theorem Own.below {B : Nat} {L : List Int} {v : Value} {w w' : World} (h : Own B L v w) (hb : Below w.heap.size w w') : Own B L v w' := by
  obtain ⟨hy, h1, h2⟩ := h
  refine ⟨hy, h1, ?_⟩
  rcases h2 with h2 | ⟨g, cap, cur, rfl, hb', hg, r⟩
  · exact .inl h2
  · exact .inr ⟨g, cap, cur, rfl, hb', (hb.block g (Array.getElem?_eq_some_iff.1 hg).1).trans hg, r⟩
theorem Own.empty (B : Nat) (w : World) : Own B [] (.slice none 0 0) w := ⟨Byt.nil, World.ownsRow_nil _ _ _ _⟩
theorem Own.one {c : Int} (hc : 0 ≤ c ∧ c ≤ 255) (w : World) : Own w.heap.size [c] (.slice (some ⟨w.heap.size, 0, none⟩) 1 1) (w.alloc (.cells #[.int .u8 c] 5)) :=
  ⟨Byt.cons hc Byt.nil, rfl, .inr ⟨w.heap.size, 1, #[.int .u8 c], rfl, Nat.le_refl _, Go.heap_alloc_new w _, Nat.le_refl _, by decide, rfl, rfl⟩⟩
/-- What may be appended: the bytes M. -/
def From (M : List Int) (tx : TypeId) (u : Value) (w : World) : Prop := Byt M ∧ Src Try.prog 1 tx u M.length (cells8 M) w
theorem Rd.src {L : List Int} {v : Value} {w : World} (h : Rd L v w) : From L 48 v w := by
  obtain ⟨hy, a, cap, rfl, h1, h2, h3⟩ := h
  refine ⟨hy, ?_⟩
  have hl : (cells8 L).length = L.length * 1 := by rw [cells8_len, Nat.mul_one]
  cases a with
  | none =>
    by_cases hp : 0 < L.length
    · obtain ⟨b, off, he, _⟩ := h3 hp
      cases he
    · have : L = [] := List.eq_nil_of_length_eq_zero (by omega)
      subst this
      exact Src.ofNil w Try.underlying48 cap
  | some ad =>
    refine Src.ofSlice w Try.underlying48 ad L.length cap (cells8 L) hl (fun j u hu => ?_) (ints_oneCell _ _)
    have hj : j < L.length := by
      have := (List.getElem?_eq_some_iff.1 hu).1
      rwa [cells8_len] at this
    obtain ⟨b, off, he, _, hc⟩ := h3 (by omega)
    cases he
    rw [Addr.add_lit, hc j hj]
    rw [cells8_at hj] at hu
    exact hu
/-- A string's bytes as numbers. -/
def byt (s : ByteArray) : List Int := s.data.toList.map fun b => (b.toNat : Int)
theorem byt_len (s : ByteArray) : (byt s).length = s.size := by
  unfold byt
  rw [List.length_map, Array.length_toList]
  rfl
theorem byt_byt (s : ByteArray) : Byt (byt s) := fun n hn => by
  obtain ⟨b, _, rfl⟩ := List.mem_map.1 hn
  have := UInt8.toNat_lt b
  omega
theorem byt_src (s : ByteArray) (w : World) : From (byt s) 9 (.string s) w := by
  refine ⟨byt_byt s, ?_⟩
  have h := Src.ofString (P := Try.prog) w Try.underlying9 s
  have e : byteCells s = cells8 (byt s) := by simp [byteCells, cells8, byt]
  rw [← e, byt_len]
  exact h
theorem str_byt (s : ByteArray) : strOfNums (byt s) = s := by
  obtain ⟨d⟩ := s
  have e : ((fun n : Int => UInt8.ofNat n.toNat) ∘ fun b : UInt8 => (b.toNat : Int)) = id := by
    funext b
    simp
  simp only [strOfNums, byt, List.map_map, e, List.map_id]
theorem byt_str {L : List Int} (h : Byt L) : byt (strOfNums L) = L := by
  simp only [byt, strOfNums, List.map_map, List.toList_toArray]
  have : ∀ n ∈ L, ((fun b : UInt8 => (b.toNat : Int)) ∘ fun n : Int => UInt8.ofNat n.toNat) n = n := fun n hn => by
    have := h n hn
    simp only [Function.comp, UInt8.toNat_ofNat']
    omega
  rw [List.map_congr_left this]
  simp
theorem str_size (L : List Int) : (strOfNums L).size = L.length := by
  show (strOfNums L).data.size = L.length
  simp [strOfNums]
theorem Rd.conv {L : List Int} {v : Value} {w : World} (h : Rd L v w) : (convert 48 9 v).run Try.prog w = .ok (.string (strOfNums L)) w := by
  obtain ⟨hy, a, cap, rfl, h1, h2, h3⟩ := h
  by_cases hp : 0 < L.length
  · obtain ⟨b, off, rfl, _, hc⟩ := h3 hp
    exact run_convert_bytes_arg w _ _ Try.underlying48 Try.underlying5 b off _ cap L rfl hc _ Try.underlying9
  · have : L = [] := List.eq_nil_of_length_eq_zero (by omega)
    subst this
    cases a with
    | none => exact run_convert_bytes_nil w _ _ Try.underlying48 Try.underlying5 _ _ _ Try.underlying9
    | some ad =>
      have hl : (loadCells ad 0).run Try.prog w = .ok (([] : List Int).map (Value.int .u8)).toArray w := run_loadCells_list (P := Try.prog) w ad [] (fun j v hj => by simp at hj)
      show (convert 48 9 (.slice (some ad) 0 cap)).run Try.prog w = _
      rw [run_convert_bytes_string w _ _ _ _ 0 cap Try.underlying48 Try.underlying5 Try.underlying9, run_bytesToString w _ 0 cap [] hl]
      rfl
/-- A slice of a slice. -/
theorem Rd.cut {L : List Int} {b off n cap : Nat} {w : World} (h : Rd L (.slice (some ⟨b, off, none⟩) n cap) w) (lo hi : Nat) (h1 : lo ≤ hi) (h2 : hi ≤ L.length) (a' : Option Addr) (ha : lo < cap → a' = some ⟨b, off + lo, none⟩) {m c : Nat} (hm : m = hi - lo) (hc : c = cap - lo) : Rd ((L.take hi).drop lo) (.slice a' m c) w := by
  obtain ⟨hy, a, cap', he, h3, h4, h5⟩ := h
  simp only [Value.slice.injEq] at he
  obtain ⟨rfl, rfl, rfl⟩ := he
  subst hm hc
  have hl : ((L.take hi).drop lo).length = hi - lo := by simp; omega
  refine ⟨(hy.take hi).drop lo, a', cap - lo, by rw [hl], by rw [hl]; omega, by omega, fun hp => ?_⟩
  rw [hl] at hp
  obtain ⟨b', off', he, hlt, hcell⟩ := h5 (by omega)
  simp only [Option.some.injEq, Addr.mk.injEq, and_true] at he
  obtain ⟨rfl, rfl⟩ := he
  refine ⟨b, off + lo, ha (by omega), hlt, fun j hj => ?_⟩
  rw [hl] at hj
  rw [Nat.add_assoc, hcell (lo + j) (by omega)]
  have : ((L.take hi).drop lo).getD j 0 = L.getD (lo + j) 0 := by
    simp only [List.getD, List.getElem?_drop, List.getElem?_take]
    rw [if_pos (by omega)]
  rw [this]
section
variable {w : World}
/-- append, onto bytes of the call's own. -/
theorem wp_app {ops : Array Oper} {rest : List Oper} {o : Oper} {a : Act} {Q : Exit → Act → World → Prop} (hgd : o.guard = none) (s x : Operand) (tx : TypeId)
    (ho : o.op = .call { callee := .builtin .append, args := #[s, x], argTypes := #[48, tx] }) (B : Nat) (L M : List Int) (v u : Value) (hs : a.eval s = v) (hx : a.eval x = u)
    (hown : Own B L v w) (hsrc : From M tx u w) (hB : B ≤ w.heap.size) (hn : L.length + M.length ≤ 140737488355328)
    (h : ∀ v' w', Own B (L ++ M) v' w' → Below B w w' → wpList Try.prog ops Q rest (a.put o.dst v') w') : wpList Try.prog ops Q (o :: rest) a w := by
  obtain ⟨i0, hi, hz0, hz1, hz2⟩ := info_parts info_u8
  refine wpList_own_src w hgd s x 48 tx ho B 5 i0 (.int .u8 0) 1 1 Try.underlying48 hi hz0 hz1 hz2 rfl (by decide) v L.length (cells8 L) hs hown.2 u M.length (cells8 M) hx hsrc.2 (by unfold maxLen; omega) (by omega) hB ?_
  intro v' w' h1 h2
  refine h v' w' ⟨hown.1.app hsrc.1, ?_⟩ ((Below.refl _ _).grown h2 hB (fun k hk => (World.ownsRow.lt hown.2 k hk).1))
  rw [List.length_append, cells8_app]
  exact h1
end
end Go.Proofs.Ytlbbmnjhohfbkaa
