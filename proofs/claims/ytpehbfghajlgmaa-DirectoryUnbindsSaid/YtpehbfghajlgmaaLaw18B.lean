/- The walk of DirectoryBinds. -/
import Derived.Test.YtpehbfghajlgmaaKn18
import Derived.Test.YtpehbfghajlgmaaBgK
import Derived.Test.YtpehbfghajlgmaaBgW
import Derived.Test.YtpehbfghajlgmaaBgS
import Derived.Test.YtpehbfghajlgmaaOthI
namespace Go.Proofs.Ytpehbfghajlgmaa
open Go.RowKit
set_option linter.unusedVariables false
set_option linter.unusedSimpArgs false
/-- Two answers of one contract are one. -/
theorem out_same {z : Int} {C : List Bg → Prop} {R S : List Bg} (hu : ∀ {R S}, C R → C S → R = S) (h1 : z = 0 → C R) (h2 : z ≠ 0 → R = []) (k1 : z = 0 → C S) (k2 : z ≠ 0 → S = []) : R = S := by
  by_cases h : z = 0
  · exact hu (h1 h) (k1 h)
  · rw [h2 h, k2 h]
theorem out_len {z : Int} {C : List Bg → Prop} {R : List Bg} {n : Nat} (hu : ∀ {R}, C R → R.length ≤ n) (h1 : z = 0 → C R) (h2 : z ≠ 0 → R = []) : R.length ≤ n := by
  by_cases h : z = 0
  · exact hu (h1 h)
  · rw [h2 h]; exact Nat.zero_le _
/-- The law's six names. -/
def SixN (s : ByteArray) : Prop := s = ⟨#[97]⟩ ∨ s = ⟨#[98]⟩ ∨ s = ⟨#[99]⟩ ∨ s = ⟨#[]⟩ ∨ s = ⟨#[100]⟩ ∨ s = ⟨#[120, 49]⟩
theorem SixN.ok {s : ByteArray} (h : SixN s) : s.size ≤ maxLen := by
  rcases h with rfl | rfl | rfl | rfl | rfl | rfl <;> decide
theorem tq7 {z : Int} (h : 0 ≤ z ∧ z ≤ 7) : ∃ q : Int, Int.tdiv z 7 = q ∧ 0 ≤ q ∧ q ≤ 1 := ⟨Int.tdiv z 7, rfl, by rw [Int.tdiv_eq_ediv_of_nonneg h.1]; omega, by rw [Int.tdiv_eq_ediv_of_nonneg h.1]; omega⟩
theorem keepsT : Keeps (fun _ _ _ => True) := ⟨trivial, fun _ _ _ _ => trivial, fun _ => trivial, fun _ _ _ _ => trivial, fun _ _ _ _ _ => trivial⟩
set_option maxRecDepth 100000 in
set_option maxHeartbeats 8000000 in
theorem directoryBinds_walk (a0 : Option Addr) (len0 cap0 : Nat) (z0 : List Int) (a1 : Int) (a2 : Int) (W : World) (w0 : InRow .i64 W a0 len0 cap0 z0) (w1 : (Lit.int .i64 a1).wf = true) (w2 : (Lit.int .i64 a2).wf = true) :
    Calls Try.prog 3 #[.slice a0 len0 cap0, .int .i64 a1, .int .i64 a2] W fun e w' => e = .returned (.bool true) ∧ Below W.heap.size W w' := by
  have hmade := made18_any (fun _ _ _ => True) keepsT (z0.take len0) _ W (inRow_rdJ w0)
  have HSP := Lib.hid (fun (M : List Bg) (u : Value) (w : World) (h : RdBg M u w) (hl : M.length ≤ 1000) => spoil_any M u a1 w h hl)
  clear w0 w1 w2
  have m1 := bmask3 (a1 / 4096)
  have m2 := bmask2 (a1 / 32768)
  have m3 := bmask3 (a1 / 131072)
  have m4 := bmask4 a2
  have r1 : 0 ≤ a1 / 4096 % 8 := by omega
  have r2 : 0 ≤ a1 / 32768 % 4 ∧ a1 / 32768 % 4 ≤ 3 := by omega
  have r3 : 0 ≤ a1 / 131072 % 8 ∧ a1 / 131072 % 8 ≤ 7 := by omega
  have r4 : 0 ≤ a2 % 16 ∧ a2 % 16 ≤ 15 := by omega
  generalize a1 / 4096 % 8 = x1 at *
  generalize a1 / 32768 % 4 = x2 at *
  generalize a1 / 131072 % 8 = x3 at *
  generalize a2 % 16 = x4 at *
  obtain ⟨q, hq, q0, q1⟩ := tq7 r3
  obtain ⟨i, hi, hi6⟩ := tmod_nat r1 (n := 6) (by decide)
  have hi : Int.tmod x1 6 = (i : Int) := hi
  have y20 := r2.1
  have y21 := r2.2
  have y40 := r4.1
  have y41 := r4.2
  clear r1 r2 r3 r4
  have h6 : i = 0 ∨ i = 1 ∨ i = 2 ∨ i = 3 ∨ i = 4 ∨ i = 5 := by omega
  clear hi6
  rcases h6 with rfl | rfl | rfl | rfl | rfl | rfl
  all_goals
    simp only [Int.ofNat_zero, Int.ofNat_one, Int.cast_ofNat_Int] at hi
    go_enter Try.func3, Try.ntmps3
    go_wp2_with (first
      | (go_at_call 7; refine hmade.mono ?_; rintro e u1 ⟨M, u, cc, hl, rfl, hc, ho, -, hb⟩; have HS := Lib.hid (HSP.out M u u1 ho.rd (by omega)); have B1 := Lib.hid hb; have HL := Lib.hid hl; obtain ⟨k1, k2⟩ := hc; clear ho hb hl hmade)
      | (go_at_call 8; refine HS.out.mono ?_; rintro e u2 ⟨v, N, rfl, hr, hn, hb⟩; have HR := Lib.hid (fun (w' : World) (h : Below u2.heap.size u2 w') => hr.below h); have HN : Hid (N.length ≤ 1000) := Lib.hid (by have := HL.out; omega); have B2 := Lib.hid (bgo B1.out hb); clear hr hn hb HS)
      | (go_at_call 9; refine (pbind_any N v _ _ _ _ (HR.out _ (b1 _)) (by have := HN.out; omega) (by decide) (by omega) (by omega)).mono ?_; rintro e u3 ⟨va, R, rfl, hoA, hzA, hnA, hb⟩; have HOA := Lib.hid hoA; have HZA := Lib.hid hzA; have HNA := Lib.hid hnA; have B3 := Lib.hid (bgo (bal B2.out _) hb); have G3 := Lib.hid (bgo (b1 _) hb); clear hoA hzA hnA hb)
      | (go_at_call 10; refine (rbind_any N v _ _ _ _ (HR.out _ G3.out) (by have := HN.out; omega) (by decide) (by omega) (by omega)).mono ?_; rintro e u4 ⟨vb, S, rfl, hoB, hzB, hnB, hb⟩; have hRS := out_same PutB.uniq HZA.out HNA.out hzB hnB; subst hRS; have HRL := Lib.hid (out_len (n := N.length + 1) PutB.len HZA.out HNA.out); have HRA := Lib.hid (HOA.out.rd.below hb); have HRB := Lib.hid hoB.rd; have B4 := Lib.hid (bgo B3.out hb); clear hoB hzB hnB hb)
      | (go_at_call 11; refine (rsameb_any R va vb u4 HRA.out HRB.out (by have := HRL.out; have := HN.out; omega)).mono ?_; rintro e u5 ⟨rfl, hb⟩; have B5 := Lib.hid (bgo B4.out hb); clear hb)
      | (go_at_call 12; refine (known18_any _).mono ?_; rintro e w6 ⟨rfl, hb⟩; have B6 := Lib.hid (bgo B5.out hb); clear hb))
    go_ret
    exact ⟨rfl, B6.out⟩
end Go.Proofs.Ytpehbfghajlgmaa
