/- slices.BinarySearchFunc at bindings. -/
import Derived.Test.YtpehbfghajlgmaaGreatDgO
import Derived.Test.YtpehbfghajlgmaaGreatBgY
import Derived.Shelf.Abstract
namespace Go.Proofs.YtpehbfghajlgmaaGreat
open Go.RowKit
set_option linter.unusedVariables false
set_option linter.unusedSimpArgs false
theorem enters_cmpN : ∀ args w, (callFunc 54 args).run Tryz.prog w = .ok (.enter 54 args) w := Go.Proofs.enters_of Tryz.func54 (by kernel_rfl) rfl
/-- Strictly ascending. -/
def AscB (L : List Bg) : Prop := ∀ i j, i < j → j < L.length → befB (L.getD i Bg.z) (L.getD j Bg.z) = true
theorem befB_trans {a b c : Bg} (h : befB a b = true) (k : befB b c = true) : befB a c = true := by
  unfold befB at *
  simp only [Bool.or_eq_true, Bool.and_eq_true, decide_eq_true_eq] at *
  rcases h with h | ⟨h1, h2⟩
  · rcases k with k | ⟨k1, k2⟩
    · exact .inl (lessK_trans h k)
    · exact .inl (k1 ▸ h)
  · rcases k with k | ⟨k1, k2⟩
    · exact .inl (h1 ▸ k)
    · exact .inr ⟨h1.trans k1, by omega⟩
theorem befB_irr (a : Bg) : befB a a = false := by
  unfold befB
  rw [lessK_irr]
  simp
theorem befB_asym {a b : Bg} (h : befB a b = true) : befB b a = false := by
  cases hx : befB b a with
  | false => rfl
  | true => have := befB_trans h hx; rw [befB_irr] at this; cases this
theorem befB_tri {a b : Bg} (h : befB a b = false) (hne : ¬ (a.n = b.n ∧ a.k = b.k)) : befB b a = true := by
  unfold befB at *
  simp only [Bool.or_eq_false_iff, Bool.and_eq_false_iff, decide_eq_false_iff_not, Bool.or_eq_true, Bool.and_eq_true, decide_eq_true_eq] at *
  obtain ⟨h1, h2⟩ := h
  rcases lessK_tri a.n b.n with h' | h' | h'
  · rw [h1] at h'; cases h'
  · refine .inr ⟨h'.symm, ?_⟩
    have h3 : ¬ a.k < b.k := by rcases h2 with h2 | h2; exact absurd h' h2; exact h2
    have h4 : ¬ a.k = b.k := fun e => hne ⟨h', e⟩
    omega
  · exact .inl h'
/-- All below i come before x, none from j on does. -/
def CutB (L : List Bg) (x : Bg) (i j : Nat) : Prop := i ≤ j ∧ j ≤ L.length ∧ (∀ q, q < i → befB (L.getD q Bg.z) x = true) ∧ ∀ q, j ≤ q → q < L.length → befB (L.getD q Bg.z) x = false
theorem ascB_le {L : List Bg} (h : AscB L) {p q : Nat} (hpq : p ≤ q) (hq : q < L.length) {x : Bg} (hk : befB (L.getD q Bg.z) x = true) : befB (L.getD p Bg.z) x = true := by
  by_cases he : p = q
  · subst he; exact hk
  · exact befB_trans (h p q (by omega) hq) hk
theorem CutB.up {L : List Bg} {x : Bg} {i j h : Nat} (ha : AscB L) (hc : CutB L x i j) (h1 : i ≤ h) (h2 : h < j) (hl : befB (L.getD h Bg.z) x = true) : CutB L x (h + 1) j :=
  ⟨by omega, hc.2.1, fun q hq => ascB_le ha (show q ≤ h by omega) (by have := hc.2.1; omega) hl, hc.2.2.2⟩
theorem CutB.down {L : List Bg} {x : Bg} {i j h : Nat} (ha : AscB L) (hc : CutB L x i j) (h1 : i ≤ h) (h2 : h < j) (hl : befB (L.getD h Bg.z) x = false) : CutB L x i h :=
  ⟨h1, by have := hc.2.1; omega, hc.2.2.1, fun q hq hql => by
    cases hx : befB (L.getD q Bg.z) x with
    | false => rfl
    | true => have := ascB_le ha hq hql hx; rw [hl] at this; cases this⟩
set_option maxRecDepth 100000 in
set_option maxHeartbeats 4000000 in
theorem bsB_any (L : List Bg) (x : Bg) (v : Value) (w : World) (hv : RdBg L v w) (ha : AscB L) (hn : L.length ≤ 1000000) :
    Calls Tryz.prog 53 #[v, .agg #[.string x.n, .int .i64 x.r, .int .i64 x.k, .int .i64 x.s], .func (.func 54) #[] #[]] w fun e w' =>
      ∃ (p : Nat) (b : Bool), e = .returned (.tuple #[.int .i64 p, .bool b]) ∧ CutB L x p p ∧ Below w.heap.size w w' := by
  have he := enters_cmpN
  obtain ⟨m, r, k, s⟩ := x
  have HR := Lib.hid hv
  obtain ⟨a, cap, rfl⟩ := hv.shape
  clear hv
  have HA := Lib.hid ha
  have HN := Lib.hid hn
  have HC0 : Hid (CutB L ⟨m, r, k, s⟩ 0 L.length) := Lib.hid ⟨Nat.zero_le _, Nat.le_refl _, fun q hq => by omega, fun q h1 h2 => by omega⟩
  have HB0 := Lib.hid (b1 (a := w) (.cells #[.string m, .int .i64 r, .int .i64 k, .int .i64 s] 27))
  have HW1 := Lib.hid (show (w.alloc (.cells #[.string m, .int .i64 r, .int .i64 k, .int .i64 s] 27)).heap.size = w.heap.size + 1 by simp)
  have HX0 := Lib.hid (show At4Bg ⟨m, r, k, s⟩ w.heap.size 0 (w.alloc (.cells #[.string m, .int .i64 r, .int .i64 k, .int .i64 s] 27)) from ⟨by go_simp, by go_simp, by go_simp, by go_simp⟩)
  have HR1 := Lib.hid (HR.out.below HB0.out)
  go_enter Tryz.func53, Tryz.ntmps53
  go_wp2
  go_loopw [9, 10, 11] (fun i j _ wr => ∃ p q : Nat, i = .int .i64 (p : Int) ∧ j = .int .i64 (q : Int) ∧ Hid (CutB L ⟨m, r, k, s⟩ p q) ∧ Hid (Below (w.heap.size + 1) (w.alloc (.cells #[.string m, .int .i64 r, .int .i64 k, .int .i64 s] 27)) wr)) (fun i j _ _ => (intOf j).toNat - (intOf i).toNat)
  case atStart => exact ⟨0, L.length, rfl, rfl, HC0, Lib.hid (Below.refl _ _)⟩
  case round =>
    clear HC0
    obtain ⟨p, q, rfl, rfl, HC, HB⟩ := hrel
    have hpq := HC.out.1
    have hql := HC.out.2.1
    have hnn := HN.out
    have HRW : Hid (∀ w2, Below wr.heap.size wr w2 → RdBg L (.slice a L.length cap) w2) := Lib.hid (fun w2 h2 => (HR1.out.below (by rw [HW1.out]; exact HB.out)).below h2)
    have HXW : Hid (∀ w2, Below wr.heap.size wr w2 → At4Bg ⟨m, r, k, s⟩ w.heap.size 0 w2) := Lib.hid (fun w2 h2 => (HX0.out.below HB.out (Nat.lt_succ_self _)).below h2 (Nat.lt_of_lt_of_le (Nat.lt_succ_self _) (by have := HB.out.size; rw [HW1.out] at this; exact this)))
    have HSB : Hid (∀ w1 w2 : World, Below wr.heap.size wr w1 → Below w1.heap.size w1 w2 → Below wr.heap.size wr w2) := Lib.hid (fun _ _ h k => bgo h k)
    have hBd : Below wr.heap.size wr wr.drew := (Below.refl wr.heap.size wr).drew
    have HGO : Hid (∀ w2, Below wr.heap.size wr w2 → Below (w.heap.size + 1) (w.alloc (.cells #[.string m, .int .i64 r, .int .i64 k, .int .i64 s] 27)) w2) := Lib.hid (fun w2 h2 => HB.out.trans (h2.mono (by have := HB.out.size; rw [HW1.out] at this; exact this)))
    by_cases hlt : p < q
    · have hlt2 : (p : Int) < (q : Int) := by omega
      obtain ⟨h, hh⟩ : ∃ h : Nat, h = (p + q) / 2 := ⟨_, rfl⟩
      have hh1 : p ≤ h := by omega
      have hh2 : h < q := by omega
      have hw1 : IntKind.u64.wrap ((p : Int) + (q : Int)) = (p : Int) + (q : Int) := by rw [IntKind.wrap_u64]; omega
      have hw2 : wrap64 ((p : Int) + (q : Int)) = (p : Int) + (q : Int) := by unfold wrap64; omega
      have hw3 : ((p : Int) + (q : Int)) / 2 = (h : Int) := by omega
      have hw4 : IntKind.i64.wrap (h : Int) = (h : Int) := by rw [IntKind.wrap_i64]; omega
      have hw5 : wrap64 (h : Int) = (h : Int) := by unfold wrap64; omega
      have hw6 : IntKind.u64.wrap (h : Int) = (h : Int) := by rw [IntKind.wrap_u64]; omega
      have hhl : (h : Int) < (L.length : Int) := by omega
      have hh0 : (0 : Int) ≤ (h : Int) := by omega
      obtain ⟨b, off, rfl, hbl, c0, c1, c2, c3⟩ := (HRW.out wr (Below.refl _ _)).at_ (j := h) (by omega)
      obtain ⟨x0, x1, x2, x3⟩ := HXW.out wr (Below.refl _ _)
      have HUP := Lib.hid (fun hl => HC.out.up HA.out hh1 hh2 hl)
      have HDN := Lib.hid (fun hl => HC.out.down HA.out hh1 hh2 hl)
      have HAT : Hid (∀ w2, Below wr.heap.size wr w2 → At4Bg (L.getD h Bg.z) b (off + h * 4) w2) := Lib.hid (fun w2 h2 => by
        obtain ⟨b', off', hbo, -, d0, d1, d2, d3⟩ := (HRW.out w2 h2).at_ (j := h) (by omega)
        simp only [Option.some.injEq, Addr.mk.injEq, and_true] at hbo
        obtain ⟨rfl, rfl⟩ := hbo
        exact ⟨d0, d1, d2, d3⟩)
      generalize L.getD h Bg.z = X at *
      have hcb := cmpN_bef X ⟨m, r, k, s⟩
      have hcd := cmpN_bd X ⟨m, r, k, s⟩
      have HCM := Lib.hid (fun w => cmpN_any X ⟨m, r, k, s⟩ w)
      generalize cmpN X ⟨m, r, k, s⟩ = c at *
      obtain ⟨Xn, Xr, Xk, Xs⟩ := X
      simp only at c0 c1 c2 c3 x0 x1 x2 x3
      have HCM2 : Hid (∀ w, Calls Tryz.prog 54 #[.agg #[.string Xn, .int .i64 Xr, .int .i64 Xk, .int .i64 Xs], .agg #[.string m, .int .i64 r, .int .i64 k, .int .i64 s]] w fun e w' => e = .returned (.int .i64 c) ∧ Below w.heap.size w w') := HCM
      have HAT2 : Hid (∀ w2, Below wr.heap.size wr w2 → w2.cell? ⟨b, off + h * 4, none⟩ = some (.string Xn) ∧ w2.cell? ⟨b, off + h * 4 + 1, none⟩ = some (.int .i64 Xr) ∧ w2.cell? ⟨b, off + h * 4 + 2, none⟩ = some (.int .i64 Xk) ∧ w2.cell? ⟨b, off + h * 4 + 3, none⟩ = some (.int .i64 Xs)) := HAT
      have HXW2 : Hid (∀ w2, Below wr.heap.size wr w2 → w2.cell? ⟨w.heap.size, 0, none⟩ = some (.string m) ∧ w2.cell? ⟨w.heap.size, 1, none⟩ = some (.int .i64 r) ∧ w2.cell? ⟨w.heap.size, 2, none⟩ = some (.int .i64 k) ∧ w2.cell? ⟨w.heap.size, 3, none⟩ = some (.int .i64 s)) := HXW
      clear HCM HAT HXW hh
      by_cases hc : c < 0
      · have H1 := Lib.hid (HUP.out (by rw [← hcb]; exact decide_eq_true hc))
        clear HUP HDN hcb
        go_wp2
        go_region_held3 (fun w' => Below wr.heap.size wr w' ∧ (w'.cell? ⟨b, off + h * 4, none⟩ = some (.string Xn) ∧ w'.cell? ⟨b, off + h * 4 + 1, none⟩ = some (.int .i64 Xr) ∧ w'.cell? ⟨b, off + h * 4 + 2, none⟩ = some (.int .i64 Xk) ∧ w'.cell? ⟨b, off + h * 4 + 3, none⟩ = some (.int .i64 Xs)) ∧ w'.cell? ⟨w.heap.size, 0, none⟩ = some (.string m) ∧ w'.cell? ⟨w.heap.size, 1, none⟩ = some (.int .i64 r) ∧ w'.cell? ⟨w.heap.size, 2, none⟩ = some (.int .i64 k) ∧ w'.cell? ⟨w.heap.size, 3, none⟩ = some (.int .i64 s)) (go_keep)
          (first | (go_at_call 54; refine (HCM2.out _).mono ?_; rintro e w' ⟨rfl, hb⟩; have S1 := HSB.out _ w' (by assumption) hb; obtain ⟨c0, c1, c2, c3⟩ := HAT2.out w' S1; obtain ⟨x0, x1, x2, x3⟩ := HXW2.out w' S1; clear hb))
        all_goals
          go_wp2
          exact ⟨⟨h + 1, q, by go_num, rfl, H1, Lib.hid (HGO.out _ S1)⟩, by simp [intOf]; omega⟩
      · have H1 := Lib.hid (HDN.out (by rw [← hcb]; exact decide_eq_false hc))
        clear HUP HDN hcb
        go_wp2
        go_region_held3 (fun w' => Below wr.heap.size wr w' ∧ (w'.cell? ⟨b, off + h * 4, none⟩ = some (.string Xn) ∧ w'.cell? ⟨b, off + h * 4 + 1, none⟩ = some (.int .i64 Xr) ∧ w'.cell? ⟨b, off + h * 4 + 2, none⟩ = some (.int .i64 Xk) ∧ w'.cell? ⟨b, off + h * 4 + 3, none⟩ = some (.int .i64 Xs)) ∧ w'.cell? ⟨w.heap.size, 0, none⟩ = some (.string m) ∧ w'.cell? ⟨w.heap.size, 1, none⟩ = some (.int .i64 r) ∧ w'.cell? ⟨w.heap.size, 2, none⟩ = some (.int .i64 k) ∧ w'.cell? ⟨w.heap.size, 3, none⟩ = some (.int .i64 s)) (go_keep)
          (first | (go_at_call 54; refine (HCM2.out _).mono ?_; rintro e w' ⟨rfl, hb⟩; have S1 := HSB.out _ w' (by assumption) hb; obtain ⟨c0, c1, c2, c3⟩ := HAT2.out w' S1; obtain ⟨x0, x1, x2, x3⟩ := HXW2.out w' S1; clear hb))
        all_goals
          go_wp2
          exact ⟨⟨p, h, rfl, by go_num, H1, Lib.hid (HGO.out _ S1)⟩, by simp [intOf]; omega⟩
    · obtain rfl : p = q := by omega
      have HFIN : Hid (∀ w2 (b : Bool), Below wr.heap.size wr w2 → ∃ (p' : Nat) (b' : Bool), Ending.returned (.tuple #[.int .i64 (p : Int), .bool b]) = .returned (.tuple #[.int .i64 p', .bool b']) ∧ CutB L ⟨m, r, k, s⟩ p' p' ∧ Below w.heap.size w w2) := Lib.hid (fun w2 b h2 => ⟨p, b, rfl, HC.out, HB0.out.trans ((HGO.out w2 h2).mono (Nat.le_succ _))⟩)
      by_cases hl : p < L.length
      · have hl2 : (p : Int) < (L.length : Int) := by omega
        obtain ⟨b, off, rfl, hbl, c0, c1, c2, c3⟩ := (HRW.out wr (Below.refl _ _)).at_ (j := p) hl
        obtain ⟨x0, x1, x2, x3⟩ := HXW.out wr (Below.refl _ _)
        have HAT : Hid (∀ w2, Below wr.heap.size wr w2 → At4Bg (L.getD p Bg.z) b (off + p * 4) w2) := Lib.hid (fun w2 h2 => by
          obtain ⟨b', off', hbo, -, d0, d1, d2, d3⟩ := (HRW.out w2 h2).at_ (j := p) hl
          simp only [Option.some.injEq, Addr.mk.injEq, and_true] at hbo
          obtain ⟨rfl, rfl⟩ := hbo
          exact ⟨d0, d1, d2, d3⟩)
        generalize L.getD p Bg.z = X at *
        have hcd := cmpN_bd X ⟨m, r, k, s⟩
        have HCM := Lib.hid (fun w => cmpN_any X ⟨m, r, k, s⟩ w)
        generalize cmpN X ⟨m, r, k, s⟩ = c at *
        obtain ⟨Xn, Xr, Xk, Xs⟩ := X
        simp only at c0 c1 c2 c3 x0 x1 x2 x3
        have HCM2 : Hid (∀ w, Calls Tryz.prog 54 #[.agg #[.string Xn, .int .i64 Xr, .int .i64 Xk, .int .i64 Xs], .agg #[.string m, .int .i64 r, .int .i64 k, .int .i64 s]] w fun e w' => e = .returned (.int .i64 c) ∧ Below w.heap.size w w') := HCM
        have HAT2 : Hid (∀ w2, Below wr.heap.size wr w2 → w2.cell? ⟨b, off + p * 4, none⟩ = some (.string Xn) ∧ w2.cell? ⟨b, off + p * 4 + 1, none⟩ = some (.int .i64 Xr) ∧ w2.cell? ⟨b, off + p * 4 + 2, none⟩ = some (.int .i64 Xk) ∧ w2.cell? ⟨b, off + p * 4 + 3, none⟩ = some (.int .i64 Xs)) := HAT
        have HXW2 : Hid (∀ w2, Below wr.heap.size wr w2 → w2.cell? ⟨w.heap.size, 0, none⟩ = some (.string m) ∧ w2.cell? ⟨w.heap.size, 1, none⟩ = some (.int .i64 r) ∧ w2.cell? ⟨w.heap.size, 2, none⟩ = some (.int .i64 k) ∧ w2.cell? ⟨w.heap.size, 3, none⟩ = some (.int .i64 s)) := HXW
        clear HCM HAT HXW
        go_wp2
        go_region_held3 (fun w' => Below wr.heap.size wr w' ∧ (w'.cell? ⟨b, off + p * 4, none⟩ = some (.string Xn) ∧ w'.cell? ⟨b, off + p * 4 + 1, none⟩ = some (.int .i64 Xr) ∧ w'.cell? ⟨b, off + p * 4 + 2, none⟩ = some (.int .i64 Xk) ∧ w'.cell? ⟨b, off + p * 4 + 3, none⟩ = some (.int .i64 Xs)) ∧ w'.cell? ⟨w.heap.size, 0, none⟩ = some (.string m) ∧ w'.cell? ⟨w.heap.size, 1, none⟩ = some (.int .i64 r) ∧ w'.cell? ⟨w.heap.size, 2, none⟩ = some (.int .i64 k) ∧ w'.cell? ⟨w.heap.size, 3, none⟩ = some (.int .i64 s)) (go_keep)
          (first | (go_at_call 54; refine (HCM2.out _).mono ?_; rintro e w' ⟨rfl, hb⟩; have S1 := HSB.out _ w' (by assumption) hb; obtain ⟨c0, c1, c2, c3⟩ := HAT2.out w' S1; obtain ⟨x0, x1, x2, x3⟩ := HXW2.out w' S1; clear hb))
        all_goals
          go_wp2
          go_ret2
          exact HFIN.out _ _ S1
      · have hl2 : ¬ (p : Int) < (L.length : Int) := by omega
        obtain rfl : p = L.length := by omega
        go_wp2
        go_quiet (fail)
        go_wp2
        go_ret2
        exact ⟨L.length, false, rfl, HC.out, HB0.out.trans ((HGO.out _ (below_drewN (Below.refl _ _) _)).mono (Nat.le_succ _))⟩
end Go.Proofs.YtpehbfghajlgmaaGreat
