/- The walk of the law NamesInts. -/
import Derived.Test.YtedcleobhdjhaaaDoorKnown4
import Derived.Test.YtedcleobhdjhaaaDoorNums
import Derived.Lib.ItoaLen
namespace Go.Proofs.YtedcleobhdjhaaaDoor
open Go.RowKit
set_option linter.unusedVariables false
set_option linter.unusedSimpArgs false
theorem itoI_len (n : Int) (n0 : -9223372036854775808 ≤ n) (n1 : n ≤ 9223372036854775807) : (itoI n).length ≤ 21 := by
  rw [itoI, List.length_map]
  exact Lib.itoa_length_le n n0 n1
theorem itoI_byt (n : Int) : Byt (itoI n) := fun x hx => by
  obtain ⟨b, _, rfl⟩ := List.mem_map.1 hx
  have := UInt8.toNat_lt b
  omega
theorem parseInt_itoa (n : Int) (w : World) (n0 : -9223372036854775808 ≤ n) (n1 : n ≤ 9223372036854775807) :
    Calls Tryd.prog 26 #[.string (strOfNums (itoI n))] w fun e w' => e = .returned (.tuple #[.int .i64 (if n < -999999999999 ∨ 999999999999 < n then (0, 1) else (n, 0) : Int × Int).1, .int .i64 (if n < -999999999999 ∨ 999999999999 < n then (0, 1) else (n, 0) : Int × Int).2]) ∧ w = w' := by
  have hl := itoI_len n n0 n1
  have h := parseInt_any (strOfNums (itoI n)) w (by rw [str_size]; unfold maxLen; omega)
  rw [byt_str (itoI_byt n), parI_itoa] at h
  exact h
set_option maxRecDepth 100000 in
set_option maxHeartbeats 1000000 in
theorem namesInts_walk (s : ByteArray) (n : Int) (W : World) (ws : s.size ≤ maxLen) (wn : (Lit.int .i64 n).wf = true) (ht : Tab10 W) :
    Calls Tryd.prog 8 #[.string s, .int .i64 n] W fun e w' => e = .returned (.bool true) ∧ Below W.heap.size W w' := by
  obtain ⟨n0, n1⟩ := wf_bd wn
  have h1 := fun w => parseInt_any s w ws
  have h2 := fun w => rparseInt_any s w ws
  have h3 := fun w (hb : Below W.heap.size W w) => formatInt_any n w n0 n1 (ht.below hb)
  have h4 := fun w (hb : Below W.heap.size W w) => rformatInt_any n w n0 n1 (ht.below hb)
  have h5 := fun w => parseInt_itoa n w n0 n1
  have h7 := fun w (hb : Below W.heap.size W w) => known_any w (ht.below hb)
  generalize (parI (byt s)).1 = A at *
  generalize (parI (byt s)).2 = B at *
  generalize strOfNums (itoI n) = T at *
  clear ht wn ws
  by_cases hn : n < -999999999999 ∨ 999999999999 < n
  · rw [if_pos hn] at h5
    by_cases hneg : n < -999999999999
    all_goals
      go_enter Tryd.func8, Tryd.ntmps8
      go_wp2_with (first
        | (go_at_call 26; first
          | ((with_reducible refine (h1 _).mono ?_); rintro e w' ⟨rfl, rfl⟩)
          | ((with_reducible refine (h5 _).mono ?_); rintro e w' ⟨rfl, rfl⟩))
        | (go_at_call 27; refine (h2 _).mono ?_; rintro e w' ⟨rfl, rfl⟩)
        | (go_at_call 28; refine (h3 _ (Below.refl _ _)).mono ?_; rintro e w1 ⟨rfl, hb1⟩)
        | (go_at_call 29; refine (h4 _ hb1).mono ?_; rintro e w2 ⟨rfl, hb2⟩; have hb12 := hb1.trans (hb2.mono hb1.size))
        | (go_at_call 15; refine (h7 _ hb12).mono ?_; rintro e w3 ⟨rfl, hb3⟩))
      go_ret
      exact ⟨rfl, hb12.trans (hb3.mono hb12.size)⟩
  · rw [if_neg hn] at h5
    have m0 : -999999999999 ≤ n := by omega
    have m1 : n ≤ 999999999999 := by omega
    clear hn
    go_enter Tryd.func8, Tryd.ntmps8
    go_wp2_with (first
      | (go_at_call 26; first
        | ((with_reducible refine (h1 _).mono ?_); rintro e w' ⟨rfl, rfl⟩)
        | ((with_reducible refine (h5 _).mono ?_); rintro e w' ⟨rfl, rfl⟩))
      | (go_at_call 27; refine (h2 _).mono ?_; rintro e w' ⟨rfl, rfl⟩)
      | (go_at_call 28; refine (h3 _ (Below.refl _ _)).mono ?_; rintro e w1 ⟨rfl, hb1⟩)
      | (go_at_call 29; refine (h4 _ hb1).mono ?_; rintro e w2 ⟨rfl, hb2⟩; have hb12 := hb1.trans (hb2.mono hb1.size))
      | (go_at_call 15; refine (h7 _ hb12).mono ?_; rintro e w3 ⟨rfl, hb3⟩))
    go_ret
    exact ⟨rfl, hb12.trans (hb3.mono hb12.size)⟩
end Go.Proofs.YtedcleobhdjhaaaDoor
