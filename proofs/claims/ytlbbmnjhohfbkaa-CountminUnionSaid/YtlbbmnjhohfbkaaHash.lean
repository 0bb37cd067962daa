/- The contracts of Hash of package mixer, and of the reference's, over a table that reads as a list of words. -/
import Derived.Test.YtlbbmnjhohfbkaaMix
import Derived.Lib.Hide
namespace Go.Proofs.Ytlbbmnjhohfbkaa
open Go.RowKit
set_option linter.unusedVariables false
set_option linter.unusedSimpArgs false
def rot5 (h : Int) : Int := bits .or .u64 (IntKind.u64.wrap (h * 32)) (h / 576460752303423488)
def hstep (h c : Int) : Int := IntKind.u64.wrap (bits .xor .u64 (rot5 h) c * 1099511628211)
def hup (L : List Int) (s : ByteArray) : Nat → Int
  | 0 => L.getD (s.size % 256) 0
  | k + 1 => hstep (hup L s k) (L.getD (((s.data[k]?.getD 0).toNat + k) % 256) 0)
def hashI (L : List Int) (s : ByteArray) : Int := mixI (hup L s s.size)
theorem hup_succ (L : List Int) (s : ByteArray) (k : Nat) (h : k < s.size) : hup L s (k + 1) = hstep (hup L s k) (L.getD ((s[k].toNat + k) % 256) 0) := by
  have e : s.data[k]?.getD 0 = s[k] := by
    have hd : k < s.data.size := h
    rw [Array.getElem?_eq_getElem hd]; rfl
  show hstep (hup L s k) _ = _
  rw [e]
theorem u8_sum (c : UInt8) (k : Nat) : IntKind.u8.wrap ((c.toNat : Int) + IntKind.u8.wrap (k : Int)) = (((c.toNat + k) % 256 : Nat) : Int) := by
  rw [IntKind.wrap_u8', IntKind.wrap_u8']; omega
theorem rot_any (h : Int) (w : World) :
    Calls Try.prog 62 #[.int .u64 h, .int .i64 5] w fun e w' => e = .returned (.int .u64 (rot5 h)) ∧ w = w' := by
  have h5 : bits .and .u64 5 63 = 5 := by decide
  go_enter Try.func62, Try.ntmps62
  go_wp2
  go_ret
  exact ⟨rfl, rfl⟩
set_option maxRecDepth 100000 in
set_option maxHeartbeats 1000000 in
theorem hash_any (L : List Int) (s : ByteArray) (b off cap : Nat) (w : World) (hs : s.size ≤ 140737488355328) (hcell : ∀ j, j < 256 → w.cell? ⟨b, off + j, none⟩ = some (.int .u64 (L.getD j 0))) :
    Calls Try.prog 36 #[.slice (some ⟨b, off, none⟩) 256 cap, .string s] w fun e w' => e = .returned (.tuple #[.int .u64 (hashI L s), .int .i64 0]) ∧ w = w' := by
  have h0 := hcell (s.size % 256) (by omega)
  go_enter Try.func36, Try.ntmps36
  go_wp2
  go_loop [6, 20] (fun h i => ∃ k : Nat, k ≤ s.size ∧ i = .int .i64 (k : Int) ∧ h = .int .u64 (hup L s k)) (fun _ i => s.size - (intOf i).toNat)
  case atStart => exact ⟨0, by omega, rfl, rfl⟩
  case round =>
    clear h0
    obtain ⟨k, hk, rfl, rfl⟩ := hrel
    by_cases hlt : k < s.size
    · have hc := hcell ((s[k].toNat + k) % 256) (by omega)
      have HS := Lib.hid (hup_succ L s k hlt)
      clear hcell
      generalize L.getD ((s[k].toNat + k) % 256) 0 = t at *
      generalize hup L s k = h at *
      go_wp2_with (go_at_call 62; refine (rot_any _ _).mono ?_; rintro e w' ⟨rfl, rfl⟩)
      go_round
      case rel => exact ⟨k + 1, by omega, by go_num, by rw [HS.out]; rfl⟩
      case measure => simp [intOf]; omega
    · obtain rfl : k = s.size := by omega
      clear hcell
      go_wp2_with (go_at_call 63; refine (mix_any _ _).mono ?_; rintro e w' ⟨rfl, rfl⟩)
      go_ret2
      exact ⟨rfl, rfl⟩
set_option maxRecDepth 100000 in
set_option maxHeartbeats 1000000 in
theorem rhash_any (L : List Int) (s : ByteArray) (b off cap : Nat) (w : World) (hs : s.size ≤ 140737488355328) (hcell : ∀ j, j < 256 → w.cell? ⟨b, off + j, none⟩ = some (.int .u64 (L.getD j 0))) :
    Calls Try.prog 40 #[.slice (some ⟨b, off, none⟩) 256 cap, .string s] w fun e w' => e = .returned (.tuple #[.int .u64 (hashI L s), .int .i64 0]) ∧ w = w' := by
  have h0 := hcell (s.size % 256) (by omega)
  go_enter Try.func40, Try.ntmps40
  go_wp2
  go_loop [6, 7] (fun h i => ∃ k : Nat, k ≤ s.size ∧ i = .int .i64 (k : Int) ∧ h = .int .u64 (hup L s k)) (fun _ i => s.size - (intOf i).toNat)
  case atStart => exact ⟨0, by omega, rfl, rfl⟩
  case round =>
    clear h0
    obtain ⟨k, hk, rfl, rfl⟩ := hrel
    by_cases hlt : k < s.size
    · have hc := hcell ((s[k].toNat + k) % 256) (by omega)
      have h8 : s[k].toNat < 256 := UInt8.toNat_lt _
      have HS := Lib.hid (hup_succ L s k hlt)
      clear hcell
      generalize L.getD ((s[k].toNat + k) % 256) 0 = t at *
      generalize hup L s k = h at *
      go_wp2
      go_round
      case rel => exact ⟨k + 1, by omega, by go_num, by rw [HS.out]; rfl⟩
      case measure => simp [intOf]; omega
    · obtain rfl : k = s.size := by omega
      clear hcell
      go_wp2_with (go_at_call 64; refine (rmix_any _ _).mono ?_; rintro e w' ⟨rfl, rfl⟩)
      go_ret2
      exact ⟨rfl, rfl⟩
/-- A table of another size. -/
theorem hash_off (A : Option Addr) (n cap : Nat) (s : ByteArray) (w : World) (hn : n ≠ 256) (hm : n ≤ maxLen) :
    Calls Try.prog 36 #[.slice A n cap, .string s] w fun e w' => e = .returned (.tuple #[.int .u64 0, .int .i64 18]) ∧ w = w' := by
  unfold maxLen at hm
  go_enter Try.func36, Try.ntmps36
  go_wp2
  go_ret2
  exact ⟨rfl, rfl⟩
theorem rhash_off (A : Option Addr) (n cap : Nat) (s : ByteArray) (w : World) (hn : n ≠ 256) (hm : n ≤ maxLen) :
    Calls Try.prog 40 #[.slice A n cap, .string s] w fun e w' => e = .returned (.tuple #[.int .u64 0, .int .i64 18]) ∧ w = w' := by
  unfold maxLen at hm
  go_enter Try.func40, Try.ntmps40
  go_wp2
  go_ret2
  exact ⟨rfl, rfl⟩
end Go.Proofs.Ytlbbmnjhohfbkaa
