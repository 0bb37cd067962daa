/- The contracts of package wire's Checksum and Frame, and of the reference's. -/
import Derived.Test.YtjpinnoolnhphaaWireRef2
namespace Go.Proofs.Ytjpinnoolnhphaa
open Go.RowKit
set_option linter.unusedVariables false
set_option linter.unusedSimpArgs false
def adlerN (L : List Int) : Nat := (adler L).toNat
theorem adler_bd (L : List Int) : 0 ≤ adler L ∧ adler L ≤ 4294967295 := by
  have := sums_bd L
  unfold adler
  omega
theorem adlerN_eq (L : List Int) : ((adlerN L : Nat) : Int) = adler L := Int.toNat_of_nonneg (adler_bd L).1
theorem adlerN_bd (L : List Int) : adlerN L < 4294967296 := by have := adlerN_eq L; have := adler_bd L; omega
theorem or16 (v u : Int) (v0 : 0 ≤ v) (v1 : v < 65521) (u0 : 0 ≤ u) (u1 : u < 65521) : bits .or .u32 (v * 65536) u = v * 65536 + u := by
  obtain ⟨n, rfl⟩ : ∃ n : Nat, v = (n : Int) := ⟨v.toNat, by omega⟩
  obtain ⟨m, rfl⟩ : ∃ m : Nat, u = (m : Int) := ⟨u.toNat, by omega⟩
  have e : ((n : Int) * 65536) = ((n * 65536 : Nat) : Int) := by omega
  rw [e, u32_or_nat (n * 65536) m (by omega) (by omega)]
  have : n * 65536 ||| m = n * 65536 + m := by
    have h := Nat.shiftLeft_add_eq_or_of_lt (b := m) (i := 16) (by omega) n
    rw [Nat.shiftLeft_eq] at h
    exact h.symm
  rw [this]
  omega
theorem sums_up {L : List Int} {k : Nat} (h : k < L.length) : sumsUV (L.take (k + 1)) = (((sumsUV (L.take k)).1 + L.getD k 0) % 65521, ((sumsUV (L.take k)).2 + ((sumsUV (L.take k)).1 + L.getD k 0) % 65521) % 65521) := by
  rw [take_snoc L k h, sums_snoc]
/-- A frame: its head and body; whole; the error. -/
def headB (tag : Int) (L : List Int) : List Int := tag :: (uintB L.length ++ L)
def frameB (tag : Int) (L : List Int) : List Int := if L.length ≤ 1048576 then headB tag L ++ be (adlerN (headB tag L)) 4 else []
def frameE (L : List Int) : Int := if L.length ≤ 1048576 then 0 else 11
theorem Own.row {C : List Int} (hy : Byt C) (w : World) (hm : C.length ≤ maxLen) : Own w.heap.size C (.slice (some ⟨w.heap.size, 0, none⟩) C.length C.length) (w.alloc (.cells (cells8 C).toArray 5)) :=
  ⟨hy, by rw [cells8_len, Nat.mul_one], .inr ⟨w.heap.size, C.length, (cells8 C).toArray, rfl, Nat.le_refl _, Go.heap_alloc_new w _, Nat.le_refl _, hm, by simp [cells8_len], by rw [Nat.mul_one, ← cells8_len]; exact List.take_length⟩⟩
theorem be4 (N : Nat) (h : N < 4294967296) : be N 4 = [(N : Int) / 16777216, (N : Int) / 65536 % 256, (N : Int) / 256 % 256, (N : Int) % 256] := by
  have e : be N 4 = [((N / 16777216 % 256 : Nat) : Int), ((N / 65536 % 256 : Nat) : Int), ((N / 256 % 256 : Nat) : Int), ((N / 1 % 256 : Nat) : Int)] := rfl
  rw [e, Nat.div_one]
  have e1 : N / 16777216 % 256 = N / 16777216 := Nat.mod_eq_of_lt (by omega)
  rw [e1]
  simp only [Int.natCast_emod, Int.natCast_ediv]
  rfl
theorem be4_byt (N : Nat) (h : N < 4294967296) : Byt [(N : Int) / 16777216, (N : Int) / 65536 % 256, (N : Int) / 256 % 256, (N : Int) % 256] := be4 N h ▸ be_byt N 4
end Go.Proofs.Ytjpinnoolnhphaa
