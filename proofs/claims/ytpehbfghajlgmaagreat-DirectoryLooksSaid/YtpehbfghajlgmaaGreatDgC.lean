/- slices.Clone, slices.IndexFunc, slices.ContainsFunc at bindings. -/
import Derived.Test.YtpehbfghajlgmaaGreatBgR
import Derived.Lib.SliceRun
import Derived.Shelf.Abstract
import Derived.Lib.Walk
import Derived.Deep.CutBlock
import Derived.Deep.CutRange
namespace Go.Proofs.YtpehbfghajlgmaaGreat
open Go.RowKit
set_option linter.unusedVariables false
set_option linter.unusedSimpArgs false
set_option maxRecDepth 100000 in
theorem cloneBg_any (L : List Bg) (v : Value) (w : World) (h : RdBg L v w) (hn : L.length ≤ 1000000) :
    Calls Tryz.prog 41 #[v] w fun e w' => ∃ v, e = .returned v ∧ OwnBg w.heap.size L v w' ∧ Below w.heap.size w w' := by
  obtain ⟨a, cap, rfl⟩ := h.shape
  have HR := Lib.hid h
  cases a with
  | none =>
    obtain ⟨hy, a, cap', he, h1, h2, h3⟩ := h
    have hl : L = [] := by
      apply List.eq_nil_of_length_eq_zero
      cases Nat.eq_zero_or_pos L.length with
      | inl h => exact h
      | inr h => obtain ⟨b, off, hb, _⟩ := h3 h; subst hb; cases he
    subst hl
    clear he h3 hy h1 h2
    have hq := fun w => Go.Lib.run_eql_slice_nil w 22 27 none 0 cap 0 0 Tryz.underlying22
    simp only [List.length_nil]
    go_enter Tryz.func41, Tryz.ntmps41
    go_wp2
    go_ret
    exact ⟨_, rfl, OwnBg.empty _ _, Below.refl _ _⟩
  | some ad =>
    have HS := Lib.hid (RdBg.below h (b1 (.cells #[] 27))).src
    have HO := Lib.hid (OwnBg.newNil w)
    clear h
    have hq := fun w => Go.Lib.run_eql_slice_nil w 22 27 (some ad) L.length cap 0 0 Tryz.underlying22
    go_enter Tryz.func41, Tryz.ntmps41
    go_wp2_with (at_builtin; refine wp_appBg rfl _ _ _ rfl w.heap.size [] L _ _ rfl rfl HO.out HS.out ?c1 ?c2 ?_)
    case c1 => simp
    case c2 => simp; omega
    intro v' w' ho hb
    have HO' := Lib.hid ho
    have HB' := Lib.hid hb
    clear ho hb
    go_wp2
    go_ret
    exact ⟨_, rfl, HO'.out, (b1 _).trans HB'.out⟩
/-- A closure that answers p of a binding, in this world and in all that follow. -/
def TellsB (f : FuncId) (c1 : Value) (p : Bg → Bool) (w : World) : Prop :=
  (∀ args w, (callFunc f args).run Tryz.prog w = .ok (.enter f args) w) ∧ ∀ w', Below w.heap.size w w' → ∀ x : Bg, x.ok → Calls Tryz.prog f #[.agg #[.string x.n, .int .i64 x.r, .int .i64 x.k, .int .i64 x.s], c1] w' fun e w'' => e = .returned (.bool (p x)) ∧ Below w'.heap.size w' w''
set_option maxRecDepth 100000 in
set_option maxHeartbeats 2000000 in
theorem idxBg_any (f : FuncId) (c1 : Value) (p : Bg → Bool) (L : List Bg) (v : Value) (w : World) (hv : RdBg L v w) (hL : L.length ≤ 1000000000000) (ht : TellsB f c1 p w) :
    Calls Tryz.prog 50 #[v, .func (.func f) #[] #[c1]] w fun e w' => e = .returned (.int .i64 (opnI (L.findIdx? p))) ∧ Below w.heap.size w w' := by
  obtain ⟨a, cap, rfl⟩ := hv.shape
  obtain ⟨he, hf⟩ := ht
  have HF := Lib.hid hf
  have HV := Lib.hid hv
  clear hf hv
  go_enter Tryz.func50, Tryz.ntmps50
  go_wp2
  go_loopw [5, 8] (fun _ i wr => ∃ q : Nat, q ≤ L.length ∧ i = .int .i64 (q : Int) ∧ Hid (Below w.heap.size w wr) ∧ Hid (∀ x, x < q → p (L.getD x Bg.z) = false)) (fun _ i _ => L.length - (intOf i).toNat)
  case atStart => exact ⟨0, by omega, rfl, Lib.hid (Below.refl _ _), Lib.hid (fun x hx => by omega)⟩
  case round =>
    obtain ⟨q, hq, rfl, HB, HN⟩ := hrel
    by_cases hlt : q < L.length
    · have hqi : (q : Int) < (L.length : Int) := by omega
      obtain ⟨b, off, rfl, hbl, c0, c1, c2, c3⟩ := (HV.out.below HB.out).at_ hlt
      have HC := Lib.hid (HF.out wr HB.out (L.getD q Bg.z) (HV.out.1.at_ q))
      have HMEM : Hid (L.getD q Bg.z ∈ L) := Lib.hid (by simp [List.getD, hlt])
      obtain ⟨x, hx⟩ : ∃ x, L.getD q Bg.z = x := ⟨_, rfl⟩
      rw [hx] at c0 c1 c2 c3 HC HMEM
      have HX := Lib.hid hx
      have hL1 : (-1 : Int) ≤ (q : Int) ∧ (q : Int) ≤ (L.length : Int) := by omega
      clear hx
      cases hpx : p x with
      | true =>
        have hc := HC.out
        rw [hpx] at hc
        have HC2 := Lib.hid hc
        have HR : Hid (L.findIdx? p = some q) := Lib.hid (fib_hit HN.out hlt (by rw [HX.out]; exact hpx))
        clear hc HC
        go_wp2_with ((with_reducible refine HC2.out.mono ?_); rintro e w' ⟨rfl, hb⟩; have HB2 := Lib.hid (bgo HB.out hb); clear hb)
        go_ret
        exact ⟨by rw [HR.out]; rfl, HB2.out⟩
      | false =>
        have hc := HC.out
        rw [hpx] at hc
        have HC2 := Lib.hid hc
        have HN2 : Hid (∀ y, y < q + 1 → p (L.getD y Bg.z) = false) := Lib.hid (fun y hy => by
          rcases Nat.lt_or_ge y q with h | h
          · exact HN.out y h
          · obtain rfl : y = q := by omega
            rw [HX.out, hpx])
        clear hc HC
        go_wp2_with ((with_reducible refine HC2.out.mono ?_); rintro e w' ⟨rfl, hb⟩; have HB2 := Lib.hid (bgo HB.out hb); clear hb)
        go_roundw
        case rel => exact ⟨q + 1, by omega, by go_num, HB2, HN2⟩
        case measure => simp [intOf]; omega
    · obtain rfl : q = L.length := by omega
      have HR := Lib.hid (fib_miss HN.out)
      go_wp2
      go_ret
      exact ⟨by rw [HR.out]; rfl, HB.out⟩
theorem opnI_bd (L : List Bg) (p : Bg → Bool) : -1 ≤ opnI (L.findIdx? p) ∧ opnI (L.findIdx? p) ≤ L.length ∧ decide (0 ≤ opnI (L.findIdx? p)) = L.any p := by
  cases h : L.findIdx? p with
  | none =>
    refine ⟨Int.le_refl _, by show (-1 : Int) ≤ _; omega, ?_⟩
    rw [List.findIdx?_eq_none_iff] at h
    have : L.any p = false := by rw [List.any_eq_false]; intro x hx; simpa using h x hx
    rw [this]
    rfl
  | some q =>
    obtain ⟨hq, hp, -⟩ := List.findIdx?_eq_some_iff_getElem.1 h
    refine ⟨by show (-1 : Int) ≤ (q : Int); omega, by show (q : Int) ≤ _; omega, ?_⟩
    have : L.any p = true := List.any_eq_true.2 ⟨_, List.getElem_mem hq, hp⟩
    rw [this]
    show decide (0 ≤ (q : Int)) = true
    simp
set_option maxRecDepth 100000 in
theorem hasBg_any (f : FuncId) (c1 : Value) (p : Bg → Bool) (L : List Bg) (v : Value) (w : World) (hv : RdBg L v w) (hL : L.length ≤ 1000000000000) (ht : TellsB f c1 p w) :
    Calls Tryz.prog 48 #[v, .func (.func f) #[] #[c1]] w fun e w' => e = .returned (.bool (L.any p)) ∧ Below w.heap.size w w' := by
  have HI := Lib.hid (idxBg_any f c1 p L v w hv hL ht)
  obtain ⟨b1, b2, b3⟩ := opnI_bd L p
  rw [← b3]
  clear b3
  obtain ⟨a, cap, rfl⟩ := hv.shape
  clear hv ht
  generalize opnI (L.findIdx? p) = k at *
  go_enter Tryz.func48, Tryz.ntmps48
  go_wp2_with (go_at_call 50; refine HI.out.mono ?_; rintro e w1 ⟨rfl, hb⟩; have HB := Lib.hid hb; clear hb)
  go_ret
  exact ⟨rfl, HB.out⟩
end Go.Proofs.YtpehbfghajlgmaaGreat
