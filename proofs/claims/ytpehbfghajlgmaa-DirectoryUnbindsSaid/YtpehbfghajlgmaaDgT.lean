/- hasTwoNames. -/
import Derived.Test.YtpehbfghajlgmaaDgA
import Derived.Test.YtpehbfghajlgmaaDgS
import Derived.RegionTactic
import Derived.BigRegion
namespace Go.Proofs.Ytpehbfghajlgmaa
open Go.RowKit
set_option linter.unusedVariables false
set_option linter.unusedSimpArgs false
/-- A binding still holds where the next one of its object begins. -/
def AdjTo (M : List Bg) (q : Nat) : Prop := ∃ i, i + 1 < q ∧ (M.getD i Bg.z).r = (M.getD (i + 1) Bg.z).r ∧ hldB (M.getD i Bg.z).k (M.getD i Bg.z).s (M.getD (i + 1) Bg.z).k = true
theorem AdjTo.step {M : List Bg} {j : Nat} (h : ¬ AdjTo M (j + 1)) (h2 : ¬ ((M.getD j Bg.z).r = (M.getD (j + 1) Bg.z).r ∧ hldB (M.getD j Bg.z).k (M.getD j Bg.z).s (M.getD (j + 1) Bg.z).k = true)) : ¬ AdjTo M (j + 1 + 1) := by
  rintro ⟨i, hi, h3⟩
  rcases Nat.lt_or_ge (i + 1) (j + 1) with h' | h'
  · exact h ⟨i, h', h3⟩
  · obtain rfl : i = j := by omega
    exact h2 h3
/-- What hasTwoNames answers. -/
def TwoPost (L : List Bg) (w : World) (e : Ending) (w' : World) : Prop := ∃ M b, M.Perm L ∧ AscT M ∧ (b = true ↔ AdjTo M L.length) ∧ e = .returned (.bool b) ∧ Below w.heap.size w w'
set_option maxRecDepth 100000 in
set_option maxHeartbeats 2000000 in
theorem two_any (L : List Bg) (v : Value) (w : World) (hv : RdBg L v w) (hL : L.length ≤ 1000000) :
    Calls Try.prog 38 #[v] w fun e w' => TwoPost L w e w' := by
  have HCL := Lib.hid (cloneBg_any L v w hv hL)
  have HST := Lib.hid (fun (v' : Value) (w1 : World) (ho : OwnBg w.heap.size L v' w1) (hb : Below w.heap.size w w1) => sortB_any L w.heap.size v' w1 ho hb.size hL)
  obtain ⟨a0, cap0, rfl⟩ := hv.shape
  clear hv
  go_enter Try.func38, Try.ntmps38
  go_wp2_with (first
    | (go_at_call 40; refine HCL.out.mono ?_; rintro e w1 ⟨v1, rfl, ho, hb⟩; obtain ⟨a1, cap1, rfl⟩ := ho.rd.shape; have HO := Lib.hid ho; have HB := Lib.hid hb; clear ho hb)
    | (go_at_call 61; refine (HST.out _ _ HO.out HB.out).mono ?_; rintro e w2 ⟨rfl, M, hp, hs, hr, hb⟩; have HP := Lib.hid hp; have HS := Lib.hid hs; have HR := Lib.hid hr; have HB2 := Lib.hid (HB.out.trans hb); have hML := hp.length_eq; clear hp hs hr hb))
  have HFIN : Hid (∀ (b : Bool) (w3 : World), (b = true ↔ AdjTo M L.length) → Below w.heap.size w w3 → TwoPost L w (.returned (.bool b)) w3) := Lib.hid (fun b w3 h1 h2 => ⟨M, b, HP.out, HS.out, h1, rfl, h2⟩)
  have HLT : Hid (∀ w3 : World, Below w2.heap.size w2 w3 → Below w.heap.size w w3) := Lib.hid (fun w3 h => HB2.out.trans (h.mono HB2.out.size))
  clear HP HS HCL HST HO HB
  go_loopw [4, 5, 6] (fun i _ _ wr => ∃ q : Nat, (q + 1 ≤ L.length ∨ q = 0) ∧ i = .int .i64 ((q : Int) + 1) ∧ Hid (¬ AdjTo M (q + 1)) ∧ Hid (Below w2.heap.size w2 wr)) (fun i _ _ _ => L.length + 1 - (intOf i).toNat)
  case atStart => exact ⟨0, .inr rfl, by go_num, Lib.hid (fun ⟨i, h, _⟩ => by omega), Lib.hid (Below.refl _ _)⟩
  case round =>
    obtain ⟨q, hq, rfl, HN, HBR⟩ := hrel
    by_cases hlt : q + 1 < L.length
    · have hqi : (q : Int) + 1 < (L.length : Int) := by omega
      have hq0 : (q : Int) < (L.length : Int) := by omega
      have hw1 : IntKind.i64.wrap ((q : Int) + 1 - 1) = (q : Int) := by rw [IntKind.wrap_i64]; omega
      have hw2 : wrap64 ((q : Int) + 1 - 1) = (q : Int) := by unfold wrap64; omega
      have HRW := Lib.hid (HR.out.below HBR.out)
      obtain ⟨b, off, rfl, hbl, c0, c1, c2, c3⟩ := HRW.out.at_ (j := q) (by omega)
      obtain ⟨b', off', hbo, -, d0, d1, d2, d3⟩ := HRW.out.at_ (j := q + 1) (by omega)
      simp only [Option.some.injEq, Addr.mk.injEq, and_true] at hbo
      obtain ⟨rfl, rfl⟩ := hbo
      have HST := Lib.hid (fun h => AdjTo.step HN.out h)
      have HYES : Hid ((M.getD q Bg.z).r = (M.getD (q + 1) Bg.z).r ∧ hldB (M.getD q Bg.z).k (M.getD q Bg.z).s (M.getD (q + 1) Bg.z).k = true → AdjTo M L.length) := Lib.hid (fun h => ⟨q, hlt, h⟩)
      generalize M.getD q Bg.z = x at *
      generalize M.getD (q + 1) Bg.z = y at *
      obtain ⟨xn, xr, xk, xs⟩ := x
      obtain ⟨yn, yr, yk, ys⟩ := y
      simp only at c0 c1 c2 c3 d0 d1 d2 d3
      have HH := Lib.hid (fun w => holds18_any xn xr xk xs yk w)
      have HN0 := Lib.hid (show ¬ ((xr = yr) ∧ hldB xk xs yk = true) → ¬ AdjTo M (q + 1 + 1) from HST.out)
      have HY0 : Hid (xr = yr ∧ hldB xk xs yk = true → AdjTo M L.length) := HYES
      have HK : Hid (∀ w3, Below wr.heap.size wr w3 → Below w2.heap.size w2 w3) := Lib.hid (fun w3 h => bgo HBR.out h)
      clear HN HST HYES
      by_cases hr : xr = yr
      · subst hr
        cases hh : hldB xk xs yk with
        | true =>
          have HY := Lib.hid (HY0.out ⟨rfl, hh⟩)
          rw [hh] at HH
          clear HN0 HY0 hh
          go_wp2
          go_region
          all_goals
            go_wp2_with (go_at_call 33; refine (HH.out _).mono ?_; rintro e w3 ⟨rfl, hb⟩; have HB3 := Lib.hid (bgo (Below.drew (b2 _ _)) hb); clear hb)
            go_ret
            exact HFIN.out _ _ ⟨fun _ => HY.out, fun _ => rfl⟩ (HLT.out _ (HK.out _ HB3.out))
        | false =>
          have HY := Lib.hid (HN0.out (fun h => by rw [hh] at h; cases h.2))
          rw [hh] at HH
          clear HN0 HY0 hh
          go_wp2
          go_region
          all_goals
            go_wp2_with (go_at_call 33; refine (HH.out _).mono ?_; rintro e w3 ⟨rfl, hb⟩; have HB3 := Lib.hid (bgo (Below.drew (b2 _ _)) hb); clear hb)
            go_roundw
            case rel => exact ⟨q + 1, by omega, by go_num, HY, Lib.hid (HK.out _ HB3.out)⟩
            case measure => simp [intOf]; omega
      · have HY := Lib.hid (HN0.out (fun h => hr h.1))
        clear HN0 HY0 HH
        go_wp2
        go_region
        all_goals
          go_wp2
          go_roundw
          case rel => exact ⟨q + 1, by omega, by go_num, HY, Lib.hid (HK.out _ (Below.drew (b2 _ _)))⟩
          case measure => simp [intOf]; omega
    · have HF : Hid (¬ AdjTo M L.length) := Lib.hid (fun ⟨i, hi, h⟩ => HN.out ⟨i, by omega, h⟩)
      have hqi : ¬ (q : Int) + 1 < (L.length : Int) := by omega
      go_wp2
      go_ret
      exact HFIN.out _ _ ⟨fun h => (by cases h), fun h => absurd h HF.out⟩ (HLT.out _ HBR.out)
end Go.Proofs.Ytpehbfghajlgmaa
