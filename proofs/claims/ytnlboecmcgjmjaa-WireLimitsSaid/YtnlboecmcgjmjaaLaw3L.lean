/- The walk of the law WireLimits. -/
import Derived.Test.YtnlboecmcgjmjaaLaw3T
namespace Go.Proofs.Ytnlboecmcgjmjaa
open Go.RowKit
set_option linter.unusedVariables false
set_option linter.unusedSimpArgs false
section
variable {w : World}
/-- 'make([]byte, n)': bytes of the call's own; of what they are nothing is told. -/
theorem wp_make {ops : Array Oper} {rest : List Oper} {o : Oper} {a : Act} {Q : Exit → Act → World → Prop} (hgd : o.guard = none) (l c : Operand)
    (ho : o.op = Op.makeSlice 24 l c) (N : Nat) (hl : a.eval l = .int .i64 (N : Int)) (hc : a.eval c = .int .i64 (N : Int)) (hN : N ≤ 281474976710656)
    (h : ∀ (Z : List Int) (w' : World), Z.length = N → Own w.heap.size Z (.slice (some ⟨w.heap.size, 0, none⟩) N N) w' → Below w.heap.size w w' → wpList Try.prog ops Q rest (a.put o.dst (.slice (some ⟨w.heap.size, 0, none⟩) N N)) w') : wpList Try.prog ops Q (o :: rest) a w := by
  obtain ⟨i0, hi, hz0, hz1, hz2⟩ := info_parts info_u8
  refine wpList_make_full w hgd l c 24 ho w.heap.size 5 i0 (.int .u8 0) 1 Try.underlying24 hi hz0 hz1 .i64 .i64 N N N hl hc rfl rfl (by rw [hz2]; omega) (by unfold maxLen; omega) (Nat.le_refl _) ?_
  intro w1 hown hgrow
  refine h (List.replicate N 0) w1 (by simp) ⟨fun n hn => ?_, ?_⟩ ((Below.refl _ _).grown hgrow (Nat.le_refl _) (fun _ h => by cases h))
  · rw [List.eq_of_mem_replicate hn]; omega
  · rw [show (Value.int .u8 0).cells = #[Value.int .u8 0] from rfl, toList_madeCells_one, Nat.mul_one] at hown
    have e : cells8 (List.replicate N 0) = List.replicate N (Value.int .u8 0) := by simp [cells8]
    rw [e, List.length_replicate]
    exact hown
end
/-- The encoding of a string of 65536 bytes. -/
theorem l_text (s : ByteArray) (w : World) (hs : s.size = 65536) :
    Calls Try.prog 13 #[.string s] w fun e w' => ∃ a cap, e = .returned (.tuple #[.slice a 65540 cap, .int .i64 0]) ∧ Below w.heap.size w w' := by
  refine (k_text s _ w (by omega) rfl).mono ?_
  rintro e w' ⟨v, rfl, ho, hb⟩
  obtain ⟨a, cap, rfl⟩ := ho.shape
  have hl : (textB (byt s)).length = 65540 := by
    unfold textB
    rw [byt_len, hs, if_pos (by decide), List.length_append, byt_len, hs]
    have : (uintB 65536).length = 4 := by decide +kernel
    rw [this]
  rw [hl]
  exact ⟨a, cap, rfl, hb⟩
theorem l_textOff (s : ByteArray) (w : World) (hs : s.size = 65537) :
    Calls Try.prog 13 #[.string s] w fun e w' => ∃ v, e = .returned (.tuple #[v, .int .i64 11]) ∧ Below w.heap.size w w' := by
  have := encText_any s w (by unfold maxLen; omega)
  have e : textE (byt s) = 11 := by unfold textE; rw [byt_len, hs]; decide
  rw [e] at this
  exact this.mono fun _ _ ⟨v, he, _, hb⟩ => ⟨v, he, hb⟩
theorem l_frame {L : List Int} {v : Value} (w : World) (h : Rd L v w) (hl : L.length = 1048576) :
    Calls Try.prog 23 #[.int .u8 1, v] w fun e w' => ∃ a cap, e = .returned (.tuple #[.slice a 1048585 cap, .int .i64 0]) ∧ Below w.heap.size w w' := by
  refine (k_frame 1 (by decide) h (by omega) rfl).mono ?_
  rintro e w' ⟨v, rfl, ho, hb⟩
  obtain ⟨a, cap, rfl⟩ := ho.shape
  have hl2 : (frameB 1 L).length = 1048585 := by
    unfold frameB
    rw [if_pos (by omega), List.length_append, headB_len, be_len, hl]
    have : (uintB 1048576).length = 4 := by decide +kernel
    rw [this]
  rw [hl2]
  exact ⟨a, cap, rfl, hb⟩
theorem l_frameOff {L : List Int} {v : Value} (w : World) (h : Rd L v w) (hl : L.length = 1048577) :
    Calls Try.prog 23 #[.int .u8 1, v] w fun e w' => ∃ v', e = .returned (.tuple #[v', .int .i64 11]) ∧ Below w.heap.size w w' := by
  have := frame_any 1 L v w (by decide) h
  have e : frameE L = 11 := by unfold frameE; rw [hl]; decide
  rw [e] at this
  exact this.mono fun _ _ ⟨v, he, _, hb⟩ => ⟨v, he, hb⟩
set_option maxRecDepth 100000 in
set_option maxHeartbeats 2000000 in
theorem wireLimits_walk (W : World) :
    Calls Try.prog 9 #[] W fun e w' => e = .returned (.bool true) ∧ Below W.heap.size W w' := by
  go_enter Try.func9, Try.ntmps9
  go_wp2_with (first
    | (at_make; refine wp_make rfl _ _ rfl 65536 rfl rfl (by decide) ?_; intro Z1 w1 hz1 o1 b1; have c1 := o1.rd.conv; have hs1 : (strOfNums Z1).size = 65536 := (strOfNums_size Z1).trans hz1; have k1 := l_text (strOfNums Z1) w1 hs1; have B1 := Lib.hid b1; clear o1 b1 hs1 hz1)
    | (go_at_call 13; refine k1.mono ?_; rintro e w2 ⟨a2, p2, rfl, b2⟩; have B2 := Lib.hid (B1.out.trans (b2.mono B1.out.size)); clear b2 k1 c1)
    | (at_make; refine wp_make rfl _ _ rfl 65537 rfl rfl (by decide) ?_; intro Z3 w3 hz3 o3 b3; have c3 := o3.rd.conv; have hs3 : (strOfNums Z3).size = 65537 := (strOfNums_size Z3).trans hz3; have k3 := l_textOff (strOfNums Z3) w3 hs3; have B3 := Lib.hid (B2.out.trans (b3.mono B2.out.size)); clear o3 b3 hs3 hz3)
    | (go_at_call 13; refine k3.mono ?_; rintro e w4 ⟨v4, rfl, b4⟩; have B4 := Lib.hid (B3.out.trans (b4.mono B3.out.size)); clear b4 k3 c3)
    | (at_make; refine wp_make rfl _ _ rfl 1048576 rfl rfl (by decide) ?_; intro Z5 w5 hz5 o5 b5; have k5 := l_frame w5 o5.rd hz5; have B5 := Lib.hid (B4.out.trans (b5.mono B4.out.size)); clear o5 b5 hz5)
    | (go_at_call 23; refine k5.mono ?_; rintro e w6 ⟨a6, p6, rfl, b6⟩; have B6 := Lib.hid (B5.out.trans (b6.mono B5.out.size)); clear b6 k5)
    | (at_make; refine wp_make rfl _ _ rfl 1048577 rfl rfl (by decide) ?_; intro Z7 w7 hz7 o7 b7; have k7 := l_frameOff w7 o7.rd hz7; have B7 := Lib.hid (B6.out.trans (b7.mono B6.out.size)); clear o7 b7 hz7)
    | (go_at_call 23; refine k7.mono ?_; rintro e w8 ⟨v8, rfl, b8⟩; have B8 := Lib.hid (B7.out.trans (b8.mono B7.out.size)); clear b8 k7)
    | (go_at_call 10; refine (known_any _).mono ?_; rintro e w' ⟨rfl, hbl⟩))
  go_ret
  exact ⟨rfl, B8.out.trans (hbl.mono B8.out.size)⟩
end Go.Proofs.Ytnlboecmcgjmjaa
