/- The contract of sketchstorebase.Key. -/
import Derived.Test.YtdifilhfmbpalaaDoorWords
namespace Go.Proofs.YtdifilhfmbpalaaDoor
open Go.RowKit
set_option linter.unusedVariables false
set_option linter.unusedSimpArgs false
def keyTab : List ByteArray := [⟨#[97]⟩, ⟨#[98]⟩, ⟨#[99]⟩, ⟨#[100]⟩, ⟨#[101]⟩, ⟨#[102]⟩, ⟨#[97, 97]⟩, ⟨#[98, 32, 99]⟩, ⟨#[37, 54, 49]⟩, ⟨#[65, 58, 49]⟩, ⟨#[0]⟩, ⟨#[122, 47, 255]⟩]
def keyS (n : Int) : ByteArray := if n / 256 % 16 = 15 then strOfNums [n % 256, n / 2 % 256, n / 8 % 256] else keyTab.getD (n % 256 % 12).toNat ByteArray.empty
theorem keyTab_fin : ∀ i : Fin 12, 1 ≤ (keyTab.getD i.val ByteArray.empty).size ∧ (keyTab.getD i.val ByteArray.empty).size ≤ 3 := by decide +kernel
theorem keyS_bd (n : Int) : 1 ≤ (keyS n).size ∧ (keyS n).size ≤ 3 := by
  unfold keyS
  split
  · rw [str_size]; simp
  · exact keyTab_fin ⟨(n % 256 % 12).toNat, by omega⟩
theorem Own.three {c d e : Int} (hc : 0 ≤ c ∧ c ≤ 255) (hd : 0 ≤ d ∧ d ≤ 255) (he : 0 ≤ e ∧ e ≤ 255) (w : World) : Own w.heap.size [c, d, e] (.slice (some ⟨w.heap.size, 0, none⟩) 3 3) (w.alloc (.cells #[.int .u8 c, .int .u8 d, .int .u8 e] 5)) :=
  ⟨Byt.cons hc (Byt.cons hd (Byt.cons he Byt.nil)), rfl, .inr ⟨w.heap.size, 3, #[.int .u8 c, .int .u8 d, .int .u8 e], rfl, Nat.le_refl _, Go.heap_alloc_new w _, Nat.le_refl _, by decide, rfl, rfl⟩⟩
theorem mask4 (n : Int) : bits .and .i64 n 15 = n % 16 := i64_mask 4 (by decide) n
theorem mask8 (n : Int) : bits .and .i64 n 255 = n % 256 := i64_mask 8 (by decide) n
set_option maxRecDepth 100000 in
set_option maxHeartbeats 1000000 in
theorem key_any (n : Int) (w : World) (n0 : -9223372036854775808 ≤ n) (n1 : n ≤ 9223372036854775807) :
    Calls Tryd.prog 25 #[.int .i64 n] w fun e w' => e = .returned (.string (keyS n)) ∧ Below w.heap.size w w' := by
  have h1 := mask4 (n / 256)
  have h2 := mask8 n
  by_cases hk : n / 256 % 16 = 15
  · unfold keyS
    rw [if_pos hk]
    have hk' : (n / 256 % 16 == 15) = true := by simp [hk]
    have hb := (Own.three (c := n % 256) (d := n / 2 % 256) (e := n / 8 % 256) (by omega) (by omega) (by omega) (w.alloc (.cells #[.string ⟨#[97]⟩, .string ⟨#[98]⟩, .string ⟨#[99]⟩, .string ⟨#[100]⟩, .string ⟨#[101]⟩, .string ⟨#[102]⟩, .string ⟨#[97, 97]⟩, .string ⟨#[98, 32, 99]⟩, .string ⟨#[37, 54, 49]⟩, .string ⟨#[65, 58, 49]⟩, .string ⟨#[0]⟩, .string ⟨#[122, 47, 255]⟩] 9))).rd.conv
    have hz : (w.alloc (.cells #[.string ⟨#[97]⟩, .string ⟨#[98]⟩, .string ⟨#[99]⟩, .string ⟨#[100]⟩, .string ⟨#[101]⟩, .string ⟨#[102]⟩, .string ⟨#[97, 97]⟩, .string ⟨#[98, 32, 99]⟩, .string ⟨#[37, 54, 49]⟩, .string ⟨#[65, 58, 49]⟩, .string ⟨#[0]⟩, .string ⟨#[122, 47, 255]⟩] 9)).heap.size = w.heap.size + 1 := by simp
    rw [hz] at hb
    generalize strOfNums [n % 256, n / 2 % 256, n / 8 % 256] = R at *
    clear hz
    go_enter Tryd.func25, Tryd.ntmps25
    go_wp2
    go_ret
    exact ⟨rfl, ((Below.refl _ _).alloc (Nat.le_refl _) _).alloc (by simp) _⟩
  · unfold keyS
    rw [if_neg hk]
    have hk' : (n / 256 % 16 == 15) = false := beq_eq_false_iff_ne.2 hk
    obtain ⟨i, hi⟩ : ∃ i : Nat, n % 256 % 12 = (i : Int) := ⟨(n % 256 % 12).toNat, by omega⟩
    have hi12 : i < 12 := by omega
    have b0 : 0 ≤ n % 256 := by omega
    have b1 : n % 256 ≤ 255 := by omega
    rw [hi, Int.toNat_natCast]
    have hc : (w.alloc (.cells #[.string ⟨#[97]⟩, .string ⟨#[98]⟩, .string ⟨#[99]⟩, .string ⟨#[100]⟩, .string ⟨#[101]⟩, .string ⟨#[102]⟩, .string ⟨#[97, 97]⟩, .string ⟨#[98, 32, 99]⟩, .string ⟨#[37, 54, 49]⟩, .string ⟨#[65, 58, 49]⟩, .string ⟨#[0]⟩, .string ⟨#[122, 47, 255]⟩] 9)).cell? ⟨w.heap.size, i, none⟩ = some (.string (keyTab.getD i ByteArray.empty)) := by
      have e : (#[.string ⟨#[97]⟩, .string ⟨#[98]⟩, .string ⟨#[99]⟩, .string ⟨#[100]⟩, .string ⟨#[101]⟩, .string ⟨#[102]⟩, .string ⟨#[97, 97]⟩, .string ⟨#[98, 32, 99]⟩, .string ⟨#[37, 54, 49]⟩, .string ⟨#[65, 58, 49]⟩, .string ⟨#[0]⟩, .string ⟨#[122, 47, 255]⟩] : Array Value) = (keyTab.map Value.string).toArray := rfl
      rw [e, cell_of_row _ w.heap.size i _ 9 (0, 0) (Go.heap_alloc_new w _), List.getElem?_toArray, List.getElem?_map]
      have hl : i < keyTab.length := hi12
      simp [List.getD, hl]
    go_enter Tryd.func25, Tryd.ntmps25
    go_wp2
    go_ret
    exact ⟨rfl, (Below.refl _ _).alloc (Nat.le_refl _) _⟩
end Go.Proofs.YtdifilhfmbpalaaDoor
