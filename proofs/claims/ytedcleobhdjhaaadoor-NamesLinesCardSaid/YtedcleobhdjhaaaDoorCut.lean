/- The contracts of strings.Cut and strings.Split at a separator of one byte. -/
import Derived.Test.YtedcleobhdjhaaaDoorLineNums
namespace Go.Proofs.YtedcleobhdjhaaaDoor
open Go.RowKit
set_option linter.unusedVariables false
set_option linter.unusedSimpArgs false
theorem idx1_hit (s : ByteArray) (c : UInt8) (A R : List Int) (h : byt s = A ++ (c.toNat : Int) :: R) (hA : (c.toNat : Int) ∉ A) (w : World) :
    Calls Tryd.prog 56 #[.string s, .string ⟨#[c]⟩] w fun e w' => e = .returned (.int .i64 (A.length : Int)) ∧ w = w' := by
  refine (Any.stringslite_Index_one (ρ := Tryd.lays143_ren) { Tryd.lays143 with } s c w).mono ?_
  rintro e w' ⟨rfl, rfl⟩
  exact ⟨by rw [idx_hit h hA], rfl⟩
theorem idx1_miss (s : ByteArray) (c : UInt8) (h : (c.toNat : Int) ∉ byt s) (w : World) :
    Calls Tryd.prog 56 #[.string s, .string ⟨#[c]⟩] w fun e w' => e = .returned (.int .i64 (-1)) ∧ w = w' := by
  refine (Any.stringslite_Index_one (ρ := Tryd.lays143_ren) { Tryd.lays143 with } s c w).mono ?_
  rintro e w' ⟨rfl, rfl⟩
  exact ⟨by rw [idx_miss h], rfl⟩
set_option maxRecDepth 100000 in
set_option maxHeartbeats 1000000 in
theorem cut1_hit (s : ByteArray) (c : UInt8) (A R : List Int) (h : byt s = A ++ (c.toNat : Int) :: R) (hA : (c.toNat : Int) ∉ A) (w : World) (hs : s.size ≤ maxLen) :
    Calls Tryd.prog 51 #[.string s, .string ⟨#[c]⟩] w fun e w' => e = .returned (.tuple #[.string (strOfNums A), .string (strOfNums R), .bool true]) ∧ Below w.heap.size w w' := by
  unfold maxLen at hs
  have hi := fun w => idx1_hit s c A R h hA w
  have e1 := ext_take h
  have e2 := ext_rest h
  have hl : s.size = A.length + 1 + R.length := by rw [← byt_len, h]; simp; omega
  have g1 : (0 : Int) ≤ (A.length : Int) := by omega
  have g2 : (A.length : Int) ≤ (s.size : Int) := by omega
  have g3 : (0 : Int) ≤ (A.length : Int) + 1 := by omega
  have g4 : (A.length : Int) + 1 ≤ (s.size : Int) := by omega
  have g5 : ((A.length : Int) + 1).toNat = A.length + 1 := by omega
  have hw : IntKind.i64.wrap ((A.length : Int) + 1) = (A.length : Int) + 1 := IntWalk.i64_in _ (by omega)
  clear h hl hA
  generalize strOfNums A = SA at *
  generalize strOfNums R = SR at *
  generalize A.length = n at *
  go_enter Tryd.func51, Tryd.ntmps51
  go_wp2_with (go_at_call 56; refine (hi _).mono ?_; rintro e w' ⟨rfl, rfl⟩)
  go_quiet (fail)
  clear hw g5
  go_wp2
  go_ret3
  exact ⟨rfl, below_drewN (Below.refl _ _) _⟩
theorem cut1_miss (s : ByteArray) (c : UInt8) (h : (c.toNat : Int) ∉ byt s) (w : World) :
    Calls Tryd.prog 51 #[.string s, .string ⟨#[c]⟩] w fun e w' => e = .returned (.tuple #[.string s, .string ⟨#[]⟩, .bool false]) ∧ Below w.heap.size w w' := by
  have hi := fun w => idx1_miss s c h w
  go_enter Tryd.func51, Tryd.ntmps51
  go_wp2_with (go_at_call 56; refine (hi _).mono ?_; rintro e w' ⟨rfl, rfl⟩)
  go_ret3
  exact ⟨rfl, Below.refl _ _⟩
theorem cut_hit (s : ByteArray) (c : UInt8) (A R : List Int) (h : byt s = A ++ (c.toNat : Int) :: R) (hA : (c.toNat : Int) ∉ A) (w : World) (hs : s.size ≤ maxLen) :
    Calls Tryd.prog 42 #[.string s, .string ⟨#[c]⟩] w fun e w' => e = .returned (.tuple #[.string (strOfNums A), .string (strOfNums R), .bool true]) ∧ Below w.heap.size w w' := by
  have hi := cut1_hit s c A R h hA w hs
  generalize strOfNums A = SA at *
  generalize strOfNums R = SR at *
  go_enter Tryd.func42, Tryd.ntmps42
  go_wp2_with (go_at_call 51; refine hi.mono ?_; rintro e w' ⟨rfl, hb⟩)
  go_ret3
  exact ⟨rfl, hb⟩
theorem cut_miss (s : ByteArray) (c : UInt8) (h : (c.toNat : Int) ∉ byt s) (w : World) :
    Calls Tryd.prog 42 #[.string s, .string ⟨#[c]⟩] w fun e w' => e = .returned (.tuple #[.string s, .string ⟨#[]⟩, .bool false]) ∧ Below w.heap.size w w' := by
  have hi := cut1_miss s c h w
  go_enter Tryd.func42, Tryd.ntmps42
  go_wp2_with (go_at_call 51; refine hi.mono ?_; rintro e w' ⟨rfl, hb⟩)
  go_ret3
  exact ⟨rfl, hb⟩
theorem splitB_byte (x : ByteArray) (c : UInt8) : Lib.indexB x ⟨#[c]⟩ = Lib.indexByte x.data.toList c := by
  show Lib.index x.data.toList [c] = _
  rw [Lib.index_one]
theorem countB_byte (x : ByteArray) (c : UInt8) : Lib.countB x ⟨#[c]⟩ = x.data.toList.count c := by
  show Lib.count x.data.toList [c] = _
  rw [Lib.count_one]
theorem genSplit_any (s : ByteArray) (c : UInt8) (w : World) (hs : s.size < 4294967281) :
    Calls Tryd.prog 52 #[.string s, .string ⟨#[c]⟩, .int .i64 0, .int .i64 (-1)] w fun e w' => ∃ v, e = .returned v ∧ RdS (Lib.splitB ⟨#[c]⟩ 0 (s.data.toList.count c) s) v w' ∧ Below w.heap.size w w' := by
  have hle : s.data.toList.count c ≤ s.size := by rw [Lib.size_eq]; exact List.count_le_length
  have h := Any.strings_genSplit_core (ρ := Tryd.lays221_ren) Tryd.lays221 (by kernel_rfl) s ⟨#[c]⟩ 0 (-1) (s.data.toList.count c + 1) w hs (Nat.le_refl 1) (Nat.zero_le _)
    (fun x C hx => by rw [splitB_byte]; exact Tryd.strings_Index_one x c _)
    (by rw [countB_byte]; exact Tryd.strings_Count_one s c w) (by decide) (by decide) (by rw [if_pos (by decide), countB_byte]; omega)
  rw [Nat.add_sub_cancel] at h
  have hlen := Lib.splitB_all ⟨#[c]⟩ (Nat.le_refl 1) 0 _ s (countB_byte s c)
  refine h.mono ?_
  rintro e w' ⟨rfl, rfl⟩
  refine ⟨_, rfl, ?_, (Below.refl _ _).alloc (Nat.le_refl _) _⟩
  have hr := RdS.row (Lib.splitB ⟨#[c]⟩ 0 (s.data.toList.count c) s) w (by rw [hlen]; unfold maxLen; omega)
  rw [← Lib.cellsOf_full, hlen] at hr
  rw [hlen]
  exact hr
theorem split_any (s : ByteArray) (c : UInt8) (w : World) (hs : s.size < 4294967281) :
    Calls Tryd.prog 43 #[.string s, .string ⟨#[c]⟩] w fun e w' => ∃ v, e = .returned v ∧ RdS (Lib.splitB ⟨#[c]⟩ 0 (s.data.toList.count c) s) v w' ∧ Below w.heap.size w w' := by
  have hg := genSplit_any s c w hs
  generalize Lib.splitB ⟨#[c]⟩ 0 (s.data.toList.count c) s = P at *
  go_enter Tryd.func43, Tryd.ntmps43
  go_wp2_with (go_at_call 52; refine hg.mono ?_; rintro e w' ⟨v, rfl, hr, hb⟩)
  go_ret
  exact ⟨_, rfl, hr, hb⟩
end Go.Proofs.YtedcleobhdjhaaaDoor
