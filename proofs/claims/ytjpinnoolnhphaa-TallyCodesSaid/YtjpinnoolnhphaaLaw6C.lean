/- The walk of the law TallyCodes. -/
import Derived.Test.YtjpinnoolnhphaaMade6
import Derived.Test.YtjpinnoolnhphaaTallyEnc
import Derived.Test.YtjpinnoolnhphaaTallyRDec
import Derived.Test.YtjpinnoolnhphaaWireFacts
import Derived.Test.YtjpinnoolnhphaaRdIn
namespace Go.Proofs.Ytjpinnoolnhphaa
open Go.RowKit
set_option linter.unusedVariables false
set_option linter.unusedSimpArgs false
theorem restU_cod {n : Nat} (hn : n ≤ 4611686018427387904) (R : List Int) : restU (uintB n ++ R) = R := by
  unfold restU
  rw [decU_back hn R]
  show (uintB n ++ R).drop ((uintB n).length : Int).toNat = R
  rw [Int.toNat_natCast, List.drop_left]
/-- What was encoded is read back. -/
theorem dec_cod {T I : Int} {s : Bool} (h : valT T I = 0) : decTal (codT T I s) = (T, I, s, 0) := by
  obtain ⟨a, b, c⟩ := val_ok h
  have hf : flagN s ≤ 1 := by unfold flagN; split <;> omega
  have n1 : T.toNat ≤ 4611686018427387904 := by omega
  have n2 : I.toNat ≤ 4611686018427387904 := by omega
  have n3 : flagN s ≤ 4611686018427387904 := by omega
  unfold codT
  rw [if_pos h, List.append_assoc]
  have e3 : uintB (flagN s) = uintB (flagN s) ++ [] := (List.append_nil _).symm
  unfold decTal
  rw [restU_cod n1, restU_cod n2, decU_back n1, decU_back n2, e3, restU_cod n3, decU_back n3]
  dsimp only
  have t1 : ((T.toNat : Nat) : Int) = T := by omega
  have t2 : ((I.toNat : Nat) : Int) = I := by omega
  rw [t1, t2, if_neg (by
    rintro (g | g | g | g | g | g)
    · exact g rfl
    · exact g rfl
    · exact g rfl
    · exact g rfl
    · omega
    · exact g h)]
  refine Prod.ext rfl (Prod.ext rfl (Prod.ext ?_ rfl))
  cases s <;> rfl
set_option maxRecDepth 100000 in
set_option maxHeartbeats 4000000 in
theorem tallyCodes_walk (a b : Int) (c : Option Addr) (n cap : Nat) (z : List Int) (W : World) (wa : (Lit.int .i64 a).wf = true) (wb : (Lit.int .i64 b).wf = true) (w0 : InRow .u8 W c n cap z) :
    Calls Try.prog 5 #[.int .i64 a, .int .i64 b, .slice c n cap] W fun e w' => e = .returned (.bool true) ∧ Below W.heap.size W w' := by
  have HC := Lib.hid (inRow_rd w0)
  have gn : n ≤ 9223372036854775807 := by have := w0.1; have := w0.2.1; unfold maxLen at this; omega
  have h1 := fun w => made_any a b w (wf_bd wa).1 (wf_bd wa).2 (wf_bd wb).1 (wf_bd wb).2
  clear wa wb w0
  by_cases hn : 100 < n
  · go_enter Try.func5, Try.ntmps5
    go_wp2_with (go_at_call 14; refine (known_any _).mono ?_; rintro e w3 ⟨rfl, hb3⟩)
    go_ret
    exact ⟨rfl, hb3⟩
  · have hn2 : (n : Int) ≤ 100 := by omega
    generalize z.take n = L at *
    obtain ⟨D1, hD1⟩ : ∃ x, (decTal L).1 = x := ⟨_, rfl⟩
    obtain ⟨D2, hD2⟩ : ∃ x, (decTal L).2.1 = x := ⟨_, rfl⟩
    obtain ⟨D3, hD3⟩ : ∃ x, (decTal L).2.2.1 = x := ⟨_, rfl⟩
    obtain ⟨D4, hD4⟩ : ∃ x, (decTal L).2.2.2 = x := ⟨_, rfl⟩
    have HDC := Lib.hid (fun x (hb : Below W.heap.size W x) => by have := tdec_any L (.slice c n cap) x (HC.out.below hb); rw [hD1, hD2, hD3, hD4] at this; exact this)
    have HDR := Lib.hid (fun x (hb : Below W.heap.size W x) => by have := rtdec_any L (.slice c n cap) x (HC.out.below hb); rw [hD1, hD2, hD3, hD4] at this; exact this)
    clear hD1 hD2 hD3 hD4
    go_enter Try.func5, Try.ntmps5
    go_wp2_with fail
    go_at_call 8
    refine (h1 _).mono ?_
    rintro e w2 ⟨T, I, s, ⟨T0, T1⟩, ⟨I0, I1⟩, rfl, B2⟩
    clear h1
    have h1 := fun w => tenc_any T I s w T0 T1 I0 I1
    have h2 := fun w => rtenc_any T I s w T0 T1 I0 I1
    have HBK := Lib.hid (fun (h : valT T I = 0) => dec_cod (s := s) h)
    generalize codT T I s = R at *
    generalize valT T I = E at *
    go_wp2_with fail
    go_at_call 17
    refine (h1 _).mono ?_
    rintro e w3 ⟨v3, rfl, o3, b3⟩
    have B3 := Lib.hid (bgo (bal B2 _) b3)
    have O3 := Lib.hid o3.rd
    obtain ⟨hc3, hf3⟩ := bcell b3
    have hs3 : w2.heap.size < w3.heap.size := by have := b3.size; simp at this; omega
    clear o3 b3 h1
    go_wp2_with fail
    go_at_call 18
    refine (h2 _).mono ?_
    rintro e w4 ⟨v4, rfl, o4, b4⟩
    have B4 := Lib.hid (bgo B3.out b4)
    have O4 := Lib.hid o4.rd
    have P4 := Lib.hid (O3.out.below b4)
    obtain ⟨hc4, hf4⟩ := bcell b4
    have hs4 : w2.heap.size < w4.heap.size := by have := b4.size; omega
    clear o4 b4 h2
    go_wp2_with fail
    go_at_call 19
    refine (HDC.out _ B4.out).mono ?_
    rintro e w5 ⟨rfl, b5⟩
    have B5 := Lib.hid (bgo B4.out b5)
    have O5 := Lib.hid (O4.out.below b5)
    have P5 := Lib.hid (P4.out.below b5)
    obtain ⟨hc5, hf5⟩ := bcell b5
    have hs5 : w2.heap.size < w5.heap.size := by have := b5.size; omega
    clear b5
    go_wp2_with fail
    go_at_call 20
    refine (HDR.out _ (bal B5.out _)).mono ?_
    rintro e w6 ⟨rfl, b6⟩
    have B6 := Lib.hid (bal (bgo (bal B5.out _) b6) (Obj.cells #[Value.int IntKind.i64 D1, Value.int IntKind.i64 D2, Value.bool D3] 23))
    have O6 := Lib.hid ((O5.out.below (b1 _)).below b6)
    have P6 := Lib.hid ((P5.out.below (b1 _)).below b6)
    obtain ⟨hc6, hf6⟩ := bcell b6
    have hs6 : w2.heap.size < w6.heap.size := by have := b6.size; simp at this; omega
    have ha6 : w5.heap.size < w6.heap.size := by have := b6.size; simp at this; omega
    clear b6
    have O7 := Lib.hid (O6.out.below (b1 (Obj.cells #[Value.int IntKind.i64 D1, Value.int IntKind.i64 D2, Value.bool D3] 23)))
    have P7 := Lib.hid (P6.out.below (b1 (Obj.cells #[Value.int IntKind.i64 D1, Value.int IntKind.i64 D2, Value.bool D3] 23)))
    have cv1 := O7.out.conv
    have cv2 := P7.out.conv
    have ht0 : (w6.alloc (Obj.cells #[Value.int IntKind.i64 D1, Value.int IntKind.i64 D2, Value.bool D3] 23)).cell? ⟨w2.heap.size, 0, none⟩ = some (.int .i64 T) := by go_simp
    have ht1 : (w6.alloc (Obj.cells #[Value.int IntKind.i64 D1, Value.int IntKind.i64 D2, Value.bool D3] 23)).cell? ⟨w2.heap.size, 1, none⟩ = some (.int .i64 I) := by go_simp
    have ht2 : (w6.alloc (Obj.cells #[Value.int IntKind.i64 D1, Value.int IntKind.i64 D2, Value.bool D3] 23)).cell? ⟨w2.heap.size, 2, none⟩ = some (.bool s) := by go_simp
    have hu0 : (w6.alloc (Obj.cells #[Value.int IntKind.i64 D1, Value.int IntKind.i64 D2, Value.bool D3] 23)).cell? ⟨w5.heap.size, 0, none⟩ = some (.int .i64 D1) := by go_simp
    have hu1 : (w6.alloc (Obj.cells #[Value.int IntKind.i64 D1, Value.int IntKind.i64 D2, Value.bool D3] 23)).cell? ⟨w5.heap.size, 1, none⟩ = some (.int .i64 D2) := by go_simp
    have hu2 : (w6.alloc (Obj.cells #[Value.int IntKind.i64 D1, Value.int IntKind.i64 D2, Value.bool D3] 23)).cell? ⟨w5.heap.size, 2, none⟩ = some (.bool D3) := by go_simp
    have hv0 : (w6.alloc (Obj.cells #[Value.int IntKind.i64 D1, Value.int IntKind.i64 D2, Value.bool D3] 23)).cell? ⟨w6.heap.size, 0, none⟩ = some (.int .i64 D1) := by go_simp
    have hv1 : (w6.alloc (Obj.cells #[Value.int IntKind.i64 D1, Value.int IntKind.i64 D2, Value.bool D3] 23)).cell? ⟨w6.heap.size, 1, none⟩ = some (.int .i64 D2) := by go_simp
    have hv2 : (w6.alloc (Obj.cells #[Value.int IntKind.i64 D1, Value.int IntKind.i64 D2, Value.bool D3] 23)).cell? ⟨w6.heap.size, 2, none⟩ = some (.bool D3) := by go_simp
    have hsX : w2.heap.size < (w6.alloc (Obj.cells #[Value.int IntKind.i64 D1, Value.int IntKind.i64 D2, Value.bool D3] 23)).heap.size := by simp; omega
    by_cases hE : E = 0
    · subst hE
      have hdv := tdec_any R v3 _ P7.out
      rw [HBK.out rfl] at hdv
      go_wp2_with (first
        | (go_at_call 19; refine hdv.mono ?_; rintro e w8 ⟨rfl, b8⟩; have B8 := Lib.hid (bgo B6.out b8); obtain ⟨hc8, hf8⟩ := bcell b8; have hs8 : w2.heap.size < w8.heap.size := (by have := b8.size; simp at this; omega); clear b8)
        | (go_at_call 14; refine (known_any _).mono ?_; rintro e w9 ⟨rfl, b9⟩; have B9 := Lib.hid (bgo (bal B8.out _) b9); clear b9))
      go_ret
      exact ⟨rfl, B9.out⟩
    · have hE2 : (E == 0) = false := beq_eq_false_iff_ne.2 hE
      clear hE
      go_wp2_with (go_at_call 14; refine (known_any _).mono ?_; rintro e w9 ⟨rfl, b9⟩; have B9 := Lib.hid (bgo B6.out b9); clear b9)
      go_ret
      exact ⟨rfl, B9.out⟩
end Go.Proofs.Ytjpinnoolnhphaa
