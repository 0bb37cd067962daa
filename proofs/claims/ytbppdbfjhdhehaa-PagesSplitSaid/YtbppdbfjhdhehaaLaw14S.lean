/- The walk of the law PagesSplit. -/
import Derived.Test.YtbppdbfjhdhehaaKn14
namespace Go.Proofs.Ytbppdbfjhdhehaa
open Go.RowKit
set_option linter.unusedVariables false
set_option linter.unusedSimpArgs false
theorem mask5p (n : Int) : bits .and .i64 n 31 = n % 32 := i64_mask 5 (by decide) n
set_option maxRecDepth 100000 in
set_option maxHeartbeats 1000000 in
theorem pagesSplit_walk (a : Option Addr) (n cap : Nat) (z : List Int) (s m : Int) (W : World) (w0 : InRow .u8 W a n cap z) (w1 : (Lit.int .i64 s).wf = true) (w2 : (Lit.int .i64 m).wf = true) :
    Calls Try.prog 3 #[.slice a n cap, .int .i64 s, .int .i64 m] W fun e w' => e = .returned (.bool true) ∧ Below W.heap.size W w' := by
  have hr := inRow_rd w0
  have hlz : (z.take n).length = n := by have := w0.1; have := w0.2.2.1; simp; omega
  have gn : n ≤ 9223372036854775807 := by have := w0.1; have := w0.2.1; unfold maxLen at this; omega
  obtain ⟨s0, s1⟩ := wf_bd w1
  obtain ⟨m0, m1⟩ := wf_bd w2
  clear w0 w1 w2
  by_cases hn : 1000 < n
  · have hn2 : (1000 : Int) < (n : Int) := by omega
    clear hr hlz
    go_enter Try.func3, Try.ntmps3
    go_wp2_with (go_at_call 7; refine (known14_any _).mono ?_; rintro e w' ⟨rfl, hb⟩)
    go_ret
    exact ⟨rfl, hb⟩
  · have hn2 : (n : Int) ≤ 1000 := by omega
    have hL : (z.take n).length ≤ 1000000000000 := by omega
    generalize z.take n = L at *
    subst hlz
    have hk := mask5p m
    obtain ⟨T, hT⟩ : ∃ T : Nat, 1 + m % 32 = (T : Int) := ⟨(1 + m % 32).toNat, by omega⟩
    have hT1 : 1 ≤ T ∧ T ≤ 1024 := by omega
    have HR := Lib.hid hr
    have HP1 := Lib.hid (fun w (h : Below W.heap.size W w) => psplit_any L s _ w (HR.out.below h) hL s0 s1)
    have HR1 := Lib.hid (fun w (h : Below W.heap.size W w) => rsplit_any L s _ w (HR.out.below h) hL)
    have hp2 := fun w (h : Below W.heap.size W w) => psplit_any L T _ w (HR.out.below h) hL (by omega) (by omega)
    have hr2 := fun w (h : Below W.heap.size W w) => rsplit_any L T _ w (HR.out.below h) hL
    rw [(spl_ok (L := L) hT1.1 hT1.2).1, (spl_ok (L := L) hT1.1 hT1.2).2] at hp2 hr2
    have hc1 := fun w => pcount_any m s w m0 m1 s0 s1
    have hc2 := fun w => rcount_any m s w m0 m1 s0 s1
    have hc3 := fun w => pcount_any L.length T w (by omega) (by omega) (by omega) (by omega)
    rw [(cnt_eq L.length T hT1.1 hT1.2).1, (cnt_eq L.length T hT1.1 hT1.2).2, ← pgs_len] at hc3
    have HP2 := Lib.hid hp2
    have HR2 := Lib.hid hr2
    have HS := Lib.hid (fun (Z : List (List Int)) v u w (h1 : RdPs Z v w) (h2 : RdPs Z u w) => psame_any Z v u w h1 h2)
    generalize pgs L T = Z at *
    generalize splL L s = Y at *
    generalize splE s = E at *
    generalize cntV m s = C at *
    generalize cntE m s = D at *
    clear hr hp2 hr2
    go_enter Try.func3, Try.ntmps3
    go_wp2_with (first
      | (go_at_call 8; first
        | (refine (HP2.out _ B2.out).mono ?_; rintro e w3 ⟨v3, rfl, o3, b3⟩; have O3 := Lib.hid o3; have B3 := Lib.hid (bgo B2.out b3); have O13 := Lib.hid (O12.out.below b3); have O23 := Lib.hid (O2.out.below b3); clear o3 b3)
        | (refine (HP1.out _ (Below.refl _ _)).mono ?_; rintro e w1 ⟨v1, rfl, o1, b1⟩; have O1 := Lib.hid o1; have B1 := Lib.hid b1; clear o1 b1))
      | (go_at_call 9; first
        | (refine (HR2.out _ B3.out).mono ?_; rintro e w4 ⟨v4, rfl, o4, b4⟩; have O4 := Lib.hid o4; have B4 := Lib.hid (bgo B3.out b4); have O14 := Lib.hid (O13.out.below b4); have O24 := Lib.hid (O23.out.below b4); have O34 := Lib.hid (O3.out.below b4); obtain ⟨a4, c4, rfl⟩ := o4.shape; clear o4 b4)
        | (refine (HR1.out _ B1.out).mono ?_; rintro e w2 ⟨v2, rfl, o2, b2⟩; have O2 := Lib.hid o2; have B2 := Lib.hid (bgo B1.out b2); have O12 := Lib.hid (O1.out.below b2); clear o2 b2))
      | (go_at_call 10; first
        | ((with_reducible refine (hc1 _).mono ?_); rintro e w' ⟨rfl, rfl⟩)
        | ((with_reducible refine (hc3 _).mono ?_); rintro e w' ⟨rfl, rfl⟩))
      | (go_at_call 11; refine (hc2 _).mono ?_; rintro e w' ⟨rfl, rfl⟩)
      | (go_at_call 12; first
        | (refine (HS.out _ _ _ _ O35.out O45.out).mono ?_; rintro e w6 ⟨rfl, b6⟩; have B6 := Lib.hid (bgo B5.out b6); clear b6)
        | (refine (HS.out _ _ _ _ O14.out O24.out).mono ?_; rintro e w5 ⟨rfl, b5⟩; have B5 := Lib.hid (bgo B4.out b5); have O35 := Lib.hid (O34.out.below b5); have O45 := Lib.hid (O4.out.below b5); clear b5))
      | (go_at_call 7; refine (known14_any _).mono ?_; rintro e w7 ⟨rfl, b7⟩))
    go_ret
    exact ⟨rfl, bgo B6.out b7⟩
end Go.Proofs.Ytbppdbfjhdhehaa
