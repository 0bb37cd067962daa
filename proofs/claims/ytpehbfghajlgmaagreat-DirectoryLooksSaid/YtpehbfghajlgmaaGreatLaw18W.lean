/- DgT, DgV, DgF, DgP, DgU, Kn18, DgD: in one text. -/
import Derived.Test.YtpehbfghajlgmaaGreatDgA
import Derived.Test.YtpehbfghajlgmaaGreatDgS
import Derived.Test.YtpehbfghajlgmaaGreatBgY
import Derived.Test.YtpehbfghajlgmaaGreatDgI
import Derived.Test.YtpehbfghajlgmaaGreatDgB
import Derived.Test.YtpehbfghajlgmaaGreatBgX
import Derived.Test.YtpehbfghajlgmaaGreatBgZ
import Derived.Test.YtpehbfghajlgmaaGreatBgP
import Derived.Test.YtpehbfghajlgmaaGreatPnV
import Derived.RegionTactic
import Derived.BigRegion
namespace Go.Proofs.YtpehbfghajlgmaaGreat
open Go.RowKit
set_option linter.unusedVariables false
set_option linter.unusedSimpArgs false
/-- A binding still holds where the next one of its object begins. -/
def AdjTo (M : List Bg) (q : Nat) : Prop := ∃ i, i + 1 < q ∧ (M.getD i Bg.z).r = (M.getD (i + 1) Bg.z).r ∧ hldB (M.getD i Bg.z).k (M.getD i Bg.z).s (M.getD (i + 1) Bg.z).k = true
theorem AdjTo.step {M : List Bg} {j : Nat} (h : ¬ AdjTo M (j + 1)) (h2 : ¬ ((M.getD j Bg.z).r = (M.getD (j + 1) Bg.z).r ∧ hldB (M.getD j Bg.z).k (M.getD j Bg.z).s (M.getD (j + 1) Bg.z).k = true)) : ¬ AdjTo M (j + 1 + 1) := by
  rintro ⟨i, hi, h3⟩
  rcases Nat.lt_or_ge (i + 1) (j + 1) with h' | h'
  · exact h ⟨i, h', h3⟩
  · obtain rfl : i = j := by omega
    exact h2 h3
/-- What hasTwoNames answers. -/
def TwoPost (L : List Bg) (w : World) (e : Ending) (w' : World) : Prop := ∃ M b, M.Perm L ∧ AscT M ∧ (b = true ↔ AdjTo M L.length) ∧ e = .returned (.bool b) ∧ Below w.heap.size w w'
set_option maxRecDepth 100000 in
set_option maxHeartbeats 2000000 in
theorem two_any (L : List Bg) (v : Value) (w : World) (hv : RdBg L v w) (hL : L.length ≤ 1000000) :
    Calls Tryz.prog 39 #[v] w fun e w' => TwoPost L w e w' := by
  have HCL := Lib.hid (cloneBg_any L v w hv hL)
  have HST := Lib.hid (fun (v' : Value) (w1 : World) (ho : OwnBg w.heap.size L v' w1) (hb : Below w.heap.size w w1) => sortB_any L w.heap.size v' w1 ho hb.size hL)
  obtain ⟨a0, cap0, rfl⟩ := hv.shape
  clear hv
  go_enter Tryz.func39, Tryz.ntmps39
  go_wp2_with (first
    | (go_at_call 41; refine HCL.out.mono ?_; rintro e w1 ⟨v1, rfl, ho, hb⟩; obtain ⟨a1, cap1, rfl⟩ := ho.rd.shape; have HO := Lib.hid ho; have HB := Lib.hid hb; clear ho hb)
    | (go_at_call 62; refine (HST.out _ _ HO.out HB.out).mono ?_; rintro e w2 ⟨rfl, M, hp, hs, hr, hb⟩; have HP := Lib.hid hp; have HS := Lib.hid hs; have HR := Lib.hid hr; have HB2 := Lib.hid (HB.out.trans hb); have hML := hp.length_eq; clear hp hs hr hb))
  have HFIN : Hid (∀ (b : Bool) (w3 : World), (b = true ↔ AdjTo M L.length) → Below w.heap.size w w3 → TwoPost L w (.returned (.bool b)) w3) := Lib.hid (fun b w3 h1 h2 => ⟨M, b, HP.out, HS.out, h1, rfl, h2⟩)
  have HLT : Hid (∀ w3 : World, Below w2.heap.size w2 w3 → Below w.heap.size w w3) := Lib.hid (fun w3 h => HB2.out.trans (h.mono HB2.out.size))
  clear HP HS HCL HST HO HB
  go_loopw [4, 5, 6] (fun i _ _ wr => ∃ q : Nat, (q + 1 ≤ L.length ∨ q = 0) ∧ i = .int .i64 ((q : Int) + 1) ∧ Hid (¬ AdjTo M (q + 1)) ∧ Hid (Below w2.heap.size w2 wr)) (fun i _ _ _ => L.length + 1 - (intOf i).toNat)
  case atStart => exact ⟨0, .inr rfl, by go_num, Lib.hid (fun ⟨i, h, _⟩ => by omega), Lib.hid (Below.refl _ _)⟩
  case round =>
    obtain ⟨q, hq, rfl, HN, HBR⟩ := hrel
    by_cases hlt : q + 1 < L.length
    · have hqi : (q : Int) + 1 < (L.length : Int) := by omega
      have hq0 : (q : Int) < (L.length : Int) := by omega
      have hw1 : IntKind.i64.wrap ((q : Int) + 1 - 1) = (q : Int) := by rw [IntKind.wrap_i64]; omega
      have hw2 : wrap64 ((q : Int) + 1 - 1) = (q : Int) := by unfold wrap64; omega
      have HRW := Lib.hid (HR.out.below HBR.out)
      obtain ⟨b, off, rfl, hbl, c0, c1, c2, c3⟩ := HRW.out.at_ (j := q) (by omega)
      obtain ⟨b', off', hbo, -, d0, d1, d2, d3⟩ := HRW.out.at_ (j := q + 1) (by omega)
      simp only [Option.some.injEq, Addr.mk.injEq, and_true] at hbo
      obtain ⟨rfl, rfl⟩ := hbo
      have HST := Lib.hid (fun h => AdjTo.step HN.out h)
      have HYES : Hid ((M.getD q Bg.z).r = (M.getD (q + 1) Bg.z).r ∧ hldB (M.getD q Bg.z).k (M.getD q Bg.z).s (M.getD (q + 1) Bg.z).k = true → AdjTo M L.length) := Lib.hid (fun h => ⟨q, hlt, h⟩)
      generalize M.getD q Bg.z = x at *
      generalize M.getD (q + 1) Bg.z = y at *
      obtain ⟨xn, xr, xk, xs⟩ := x
      obtain ⟨yn, yr, yk, ys⟩ := y
      simp only at c0 c1 c2 c3 d0 d1 d2 d3
      have HH := Lib.hid (fun w => holds18_any xn xr xk xs yk w)
      have HN0 := Lib.hid (show ¬ ((xr = yr) ∧ hldB xk xs yk = true) → ¬ AdjTo M (q + 1 + 1) from HST.out)
      have HY0 : Hid (xr = yr ∧ hldB xk xs yk = true → AdjTo M L.length) := HYES
      have HK : Hid (∀ w3, Below wr.heap.size wr w3 → Below w2.heap.size w2 w3) := Lib.hid (fun w3 h => bgo HBR.out h)
      clear HN HST HYES
      by_cases hr : xr = yr
      · subst hr
        cases hh : hldB xk xs yk with
        | true =>
          have HY := Lib.hid (HY0.out ⟨rfl, hh⟩)
          rw [hh] at HH
          clear HN0 HY0 hh
          go_wp2
          go_region
          all_goals
            go_wp2_with (go_at_call 29; refine (HH.out _).mono ?_; rintro e w3 ⟨rfl, hb⟩; have HB3 := Lib.hid (bgo (Below.drew (b2 _ _)) hb); clear hb)
            go_ret
            exact HFIN.out _ _ ⟨fun _ => HY.out, fun _ => rfl⟩ (HLT.out _ (HK.out _ HB3.out))
        | false =>
          have HY := Lib.hid (HN0.out (fun h => by rw [hh] at h; cases h.2))
          rw [hh] at HH
          clear HN0 HY0 hh
          go_wp2
          go_region
          all_goals
            go_wp2_with (go_at_call 29; refine (HH.out _).mono ?_; rintro e w3 ⟨rfl, hb⟩; have HB3 := Lib.hid (bgo (Below.drew (b2 _ _)) hb); clear hb)
            go_roundw
            case rel => exact ⟨q + 1, by omega, by go_num, HY, Lib.hid (HK.out _ HB3.out)⟩
            case measure => simp [intOf]; omega
      · have HY := Lib.hid (HN0.out (fun h => hr h.1))
        clear HN0 HY0 HH
        go_wp2
        go_region
        all_goals
          go_wp2
          go_roundw
          case rel => exact ⟨q + 1, by omega, by go_num, HY, Lib.hid (HK.out _ (Below.drew (b2 _ _)))⟩
          case measure => simp [intOf]; omega
    · have HF : Hid (¬ AdjTo M L.length) := Lib.hid (fun ⟨i, hi, h⟩ => HN.out ⟨i, by omega, h⟩)
      have hqi : ¬ (q : Int) + 1 < (L.length : Int) := by omega
      go_wp2
      go_ret
      exact HFIN.out _ _ ⟨fun h => (by cases h), fun h => absurd h HF.out⟩ (HLT.out _ HBR.out)
theorem dupB_symm (x y : Bg) : dupB x y = dupB y x := by
  unfold dupB
  rw [Bool.or_comm, show (x.r == y.r) = (y.r == x.r) from Bool.eq_iff_iff.2 (by rw [beq_iff_eq, beq_iff_eq]; exact eq_comm)]
theorem dup_pw {L : List Bg} : ¬ DupTo L L.length ↔ L.Pairwise ApartB := by
  rw [List.pairwise_iff_getElem]
  constructor
  · intro h i j hi hj hij
    unfold ApartB
    cases hd : dupB L[j] L[i] with
    | false => rfl
    | true => exact absurd ⟨j, i, hij, hj, by simpa [List.getD, hi, hj] using hd⟩ h
  · rintro h ⟨i, k, hk, hi, hd⟩
    have := h k i (by omega) hi hk
    unfold ApartB at this
    simp [List.getD, hi, show k < L.length by omega] at hd
    rw [this] at hd
    cases hd
theorem dup_perm {L M : List Bg} (h : M.Perm L) : DupTo L L.length ↔ DupTo M M.length := by
  have h1 := h.pairwise_iff (R := ApartB) (fun {x y} hxy => by unfold ApartB at *; rw [dupB_symm]; exact hxy)
  rw [← dup_pw, ← dup_pw] at h1
  constructor
  · intro h2
    exact Classical.byContradiction fun h3 => (h1.1 h3) h2
  · intro h2
    exact Classical.byContradiction fun h3 => (h1.2 h3) h2
theorem adj_dup {L M : List Bg} (hp : M.Perm L) (hs : AscT M) (hv : ∀ x ∈ L, x.s = 0 ∨ x.k < x.s) : AdjTo M L.length ↔ DupTo L L.length := by
  rw [dup_perm hp, ← hp.length_eq]
  constructor
  · rintro ⟨i, hi, h1, h2⟩
    refine ⟨i + 1, i, by omega, hi, ?_⟩
    unfold dupB
    rw [h2, Bool.true_or, Bool.and_true, beq_iff_eq]
    exact h1.symm
  · rintro ⟨i, k, hk, hi, hd⟩
    have hle : ∀ a b, a ≤ b → b < M.length → (M.getD a Bg.z).r < (M.getD b Bg.z).r ∨ ((M.getD a Bg.z).r = (M.getD b Bg.z).r ∧ (M.getD a Bg.z).k ≤ (M.getD b Bg.z).k) := by
      intro a b hab hb
      by_cases he : a = b
      · subst he; exact .inr ⟨rfl, Int.le_refl _⟩
      · have := hs a b (by omega) hb
        unfold ltT at this
        simp only [Bool.or_eq_false_iff, Bool.and_eq_false_iff, decide_eq_false_iff_not, beq_eq_false_iff_ne] at this
        omega
    have hkm : M.getD k Bg.z ∈ L := hp.mem_iff.1 (getD_mem (by omega))
    have hok := hv _ hkm
    unfold dupB hldB at hd
    simp only [Bool.and_eq_true, Bool.or_eq_true, beq_iff_eq, decide_eq_true_eq] at hd
    have h1 := hle k i (by omega) hi
    have h2 := hle k (k + 1) (by omega) (by omega)
    have h3 := hle (k + 1) i (by omega) hi
    refine ⟨k, by omega, by omega, ?_⟩
    unfold hldB
    simp only [Bool.and_eq_true, Bool.or_eq_true, decide_eq_true_eq]
    omega
/-- What stands in errB beside the binding before, by follows. -/
theorem fol_err {x y : Bg} (hv : y.s = 0 ∨ y.k < y.s) : (lessK x.n y.n = true ∨ (y.n = x.n ∧ (x.k ≤ y.k ∨ y.s = 0 ∨ x.k < y.s))) ↔ folB x y = false := by
  unfold folB
  by_cases h : y.n = x.n
  · rw [if_pos h, h, lessK_irr]
    simp only [Bool.and_eq_false_iff, decide_eq_false_iff_not, Bool.not_eq_false', beq_iff_eq]
    constructor
    · rintro (h1 | ⟨-, h1⟩)
      · cases h1
      · omega
    · intro h1
      exact .inr ⟨by first | rfl | trivial, by omega⟩
  · rw [if_neg h]
    constructor
    · rintro (h1 | ⟨h1, -⟩)
      · exact lessK_asym h1
      · exact absurd h1 h
    · intro h1
      rcases lessK_tri x.n y.n with h2 | h2 | h2
      · exact .inl h2
      · exact absurd h2.symm h
      · rw [h1] at h2; cases h2
theorem err_val {L : List Bg} {i : Nat} (h : errB L i = 0) : (L.getD i Bg.z).s = 0 ∨ (L.getD i Bg.z).k < (L.getD i Bg.z).s := by
  unfold errB at h
  split at h
  · cases h
  · split at h
    · cases h
    · split at h
      · cases h
      · rename_i h1 h2 h3
        omega
set_option maxRecDepth 100000 in
set_option maxHeartbeats 4000000 in
theorem pvalb_any (L : List Bg) (v : Value) (w : World) (hv : RdBg L v w) (hL : L.length ≤ 1000000) :
    Calls Tryz.prog 18 #[v] w fun e w' => e = .returned (.int .i64 (valB L)) ∧ Below w.heap.size w w' := by
  have HTW := Lib.hid (fun (w1 : World) (hb : Below w.heap.size w w1) => two_any L v w1 (hv.below hb) hL)
  obtain ⟨a, cap, rfl⟩ := hv.shape
  have HV := Lib.hid hv
  clear hv
  go_enter Tryz.func18, Tryz.ntmps18
  go_wp2
  go_loopw [3, 4, 7] (fun _ _ i wr => ∃ q : Nat, q ≤ L.length ∧ i = .int .i64 (q : Int) ∧ Hid (∀ x, x < q → errB L x = 0) ∧ Hid (Below w.heap.size w wr)) (fun _ _ i _ => L.length - (intOf i).toNat)
  case atStart => exact ⟨0, by omega, rfl, Lib.hid (fun x hx => by omega), Lib.hid (Below.refl _ _)⟩
  case round =>
    obtain ⟨q, hq, rfl, HN, HB⟩ := hrel
    by_cases hlt : q < L.length
    · clear HTW
      have hqi : (q : Int) < (L.length : Int) := by omega
      obtain ⟨b, off, rfl, hbl, c0, c1, c2, c3⟩ := (HV.out.below HB.out).at_ hlt
      have hok := (HV.out.1.at_ q)
      have HBAD := Lib.hid (fun (he : errB L q ≠ 0) => valB_bad HN.out hlt he)
      have HNX : Hid (errB L q = 0 → ∀ x, x < q + 1 → errB L x = 0) := Lib.hid (fun h x hx => by
        rcases Nat.lt_or_ge x q with h' | h'
        · exact HN.out x h'
        · obtain rfl : x = q := by omega
          exact h)
      have HE : Hid (errB L q = if nameB (byt (L.getD q Bg.z).n) = false then 6 else if (L.getD q Bg.z).r < 1 ∨ (L.getD q Bg.z).k < 1 ∨ (L.getD q Bg.z).s < 0 then 5 else if (L.getD q Bg.z).s ≠ 0 ∧ (L.getD q Bg.z).s ≤ (L.getD q Bg.z).k then 19 else if 0 < q ∧ folB (L.getD q Bg.z) (L.getD (q - 1) Bg.z) = false then 19 else 0) := Lib.hid (by
        cases q with
        | zero => unfold errB; simp
        | succ j =>
          have h1 := fol_err (x := L.getD (j + 1) Bg.z) (err_val (HN.out j (Nat.lt_succ_self _)))
          unfold errB
          simp only [Nat.add_sub_cancel, Nat.succ_pos, true_and, h1])
      obtain ⟨x, hx⟩ : ∃ x, L.getD q Bg.z = x := ⟨_, rfl⟩
      rw [hx] at c0 c1 c2 c3 hok HE
      clear hx
      obtain ⟨m, r, k, s⟩ := x
      have hms : m.size ≤ maxLen := hok.1
      simp only at c0 c1 c2 c3
      have HE : Hid (errB L q = if nameB (byt m) = false then 6 else if r < 1 ∨ k < 1 ∨ s < 0 then 5 else if s ≠ 0 ∧ s ≤ k then 19 else if 0 < q ∧ folB ⟨m, r, k, s⟩ (L.getD (q - 1) Bg.z) = false then 19 else 0) := HE
      have hnm := fun w => isName_any m w hms
      have HBOX := Lib.hid (fun (w3 : World) (h3 : Below (wr.alloc (.cells #[.string m, .int .i64 r, .int .i64 k, .int .i64 s] 27)).heap.size (wr.alloc (.cells #[.string m, .int .i64 r, .int .i64 k, .int .i64 s] 27)) w3) =>
        show w3.cell? ⟨wr.heap.size, 0, none⟩ = some (.string m) ∧ w3.cell? ⟨wr.heap.size, 1, none⟩ = some (.int .i64 r) ∧ w3.cell? ⟨wr.heap.size, 2, none⟩ = some (.int .i64 k) ∧ w3.cell? ⟨wr.heap.size, 3, none⟩ = some (.int .i64 s) from
        ⟨((bcell h3).1 wr.heap.size 0 (by simp)).trans (by go_simp), ((bcell h3).1 wr.heap.size 1 (by simp)).trans (by go_simp), ((bcell h3).1 wr.heap.size 2 (by simp)).trans (by go_simp), ((bcell h3).1 wr.heap.size 3 (by simp)).trans (by go_simp)⟩)
      have HGB := Lib.hid (fun (w3 : World) (h3 : Below (wr.alloc (.cells #[.string m, .int .i64 r, .int .i64 k, .int .i64 s] 27)).heap.size (wr.alloc (.cells #[.string m, .int .i64 r, .int .i64 k, .int .i64 s] 27)) w3) => bgo (bal HB.out _) h3)
      have HRR := Lib.hid (fun (w3 : World) (h3 : Below (wr.alloc (.cells #[.string m, .int .i64 r, .int .i64 k, .int .i64 s] 27)).heap.size (wr.alloc (.cells #[.string m, .int .i64 r, .int .i64 k, .int .i64 s] 27)) w3) => HV.out.below (bgo (bal HB.out _) h3))
      have HO := Lib.hid (fun w => isopen_any m r k s w)
      clear hok hms
      cases hn : nameB (byt m) with
      | false =>
        rw [hn] at hnm HE
        have e5 : errB L q = 6 := by rw [HE.out, if_pos rfl]
        have HF := Lib.hid (show valB L = 6 by rw [HBAD.out (by rw [e5]; decide), e5])
        clear e5 HE HBAD HNX hn HO HBOX HGB HRR
        go_wp2_with (go_at_call 23; refine (hnm _).mono ?_; rintro e w2 ⟨rfl, rfl⟩)
        go_ret
        exact ⟨by rw [HF.out]; rfl, bal HB.out _⟩
      | true =>
        rw [hn] at hnm HE
        have HE1 := Lib.hid (HE.out.trans (if_neg (by decide)))
        clear HE hn
        by_cases h1 : r < 1 ∨ k < 1 ∨ s < 0
        · have e5 : errB L q = 5 := by rw [HE1.out, if_pos h1]
          have HF := Lib.hid (show valB L = 5 by rw [HBAD.out (by rw [e5]; decide), e5])
          clear e5 HE1 HBAD HNX HO HBOX HGB HRR
          by_cases g1 : r < 1
          · clear h1
            go_wp2_with (go_at_call 23; refine (hnm _).mono ?_; rintro e w2 ⟨rfl, rfl⟩)
            go_ret
            exact ⟨by rw [HF.out]; rfl, bal HB.out _⟩
          · by_cases g2 : k < 1
            · clear h1
              go_wp2_with (go_at_call 23; refine (hnm _).mono ?_; rintro e w2 ⟨rfl, rfl⟩)
              go_ret
              exact ⟨by rw [HF.out]; rfl, bal HB.out _⟩
            · have g3 : s < 0 := by omega
              clear h1
              go_wp2_with (go_at_call 23; refine (hnm _).mono ?_; rintro e w2 ⟨rfl, rfl⟩)
              go_ret
              exact ⟨by rw [HF.out]; rfl, bal HB.out _⟩
        · have g1 : ¬ r < 1 := fun h => h1 (.inl h)
          have g2 : ¬ k < 1 := fun h => h1 (.inr (.inl h))
          have g3 : ¬ s < 0 := fun h => h1 (.inr (.inr h))
          have HE2 := Lib.hid (HE1.out.trans (if_neg h1))
          clear HE1 h1
          by_cases h2 : s ≠ 0 ∧ s ≤ k
          · have e5 : errB L q = 19 := by rw [HE2.out, if_pos h2]
            have HF := Lib.hid (show valB L = 19 by rw [HBAD.out (by rw [e5]; decide), e5])
            obtain ⟨g4, g5⟩ := h2
            have g6 : (s == 0) = false := beq_eq_false_iff_ne.2 g4
            rw [g6] at HO
            clear e5 HE2 HBAD HNX g4 g6
            go_wp2_with (first
              | (go_at_call 23; refine (hnm _).mono ?_; rintro e w2 ⟨rfl, rfl⟩)
              | (go_at_call 37; refine (HO.out _).mono ?_; rintro e w3 ⟨rfl, hb⟩; obtain ⟨e0, e1, e2, e3⟩ := HBOX.out w3 hb; have HB3 := Lib.hid (HGB.out w3 hb); have HR3 := Lib.hid (HRR.out w3 hb); clear hb))
            go_ret
            exact ⟨by rw [HF.out]; rfl, HB3.out⟩
          · have HE3 := Lib.hid (HE2.out.trans (if_neg h2))
            have hall : ((s == 0) = true) ∨ ((s == 0) = false ∧ ¬ s ≤ k) := by
              by_cases h0 : s = 0
              · exact .inl (by simp [h0])
              · exact .inr ⟨by simp [h0], fun h => h2 ⟨h0, h⟩⟩
            clear HE2 h2
            cases q with
            | zero =>
              have HF := Lib.hid (HNX.out (HE3.out.trans (if_neg (by omega))))
              clear HE3 HBAD HNX
              rcases hall with g6 | ⟨g6, g5⟩
              all_goals
                rw [g6] at HO
                clear g6
                simp only [Nat.zero_mul, Nat.add_zero] at c0 c1 c2 c3
                go_wp2_with (first
                  | (go_at_call 23; refine (hnm _).mono ?_; rintro e w2 ⟨rfl, rfl⟩)
                  | (go_at_call 37; refine (HO.out _).mono ?_; rintro e w3 ⟨rfl, hb⟩; obtain ⟨e0, e1, e2, e3⟩ := HBOX.out w3 hb; have HB3 := Lib.hid (HGB.out w3 hb); have HR3 := Lib.hid (HRR.out w3 hb); clear hb))
                go_quiet (fail)
                go_wp2
                go_roundw
                case rel => exact ⟨1, by omega, by go_num, HF, Lib.hid (below_drewN HB3.out _)⟩
                case measure => simp [intOf]; omega
            | succ j =>
              rw [show j + 1 - 1 = j from rfl] at HE3
              have HFO := Lib.hid (fun w => follows_any ⟨m, r, k, s⟩ (L.getD j Bg.z) w)
              have HAT : Hid (∀ w2, RdBg L (.slice (some ⟨b, off, none⟩) L.length cap) w2 → At4Bg (L.getD j Bg.z) b (off + j * 4) w2) := Lib.hid (fun w2 h2 => by
                obtain ⟨b', off', hbo, -, d0, d1, d2, d3⟩ := h2.at_ (j := j) (by omega)
                simp only [Option.some.injEq, Addr.mk.injEq, and_true] at hbo
                obtain ⟨rfl, rfl⟩ := hbo
                exact ⟨d0, d1, d2, d3⟩)
              obtain ⟨y, hy⟩ : ∃ y, L.getD j Bg.z = y := ⟨_, rfl⟩
              rw [hy] at HE3 HFO HAT
              clear hy
              obtain ⟨f, hf⟩ : ∃ f, folB ⟨m, r, k, s⟩ y = f := ⟨_, rfl⟩
              rw [hf] at HE3 HFO
              clear hf
              obtain ⟨yn, yr, yk, ys⟩ := y
              have HAT2 : Hid (∀ w2, RdBg L (.slice (some ⟨b, off, none⟩) L.length cap) w2 → w2.cell? ⟨b, off + j * 4, none⟩ = some (.string yn) ∧ w2.cell? ⟨b, off + j * 4 + 1, none⟩ = some (.int .i64 yr) ∧ w2.cell? ⟨b, off + j * 4 + 2, none⟩ = some (.int .i64 yk) ∧ w2.cell? ⟨b, off + j * 4 + 3, none⟩ = some (.int .i64 ys)) := HAT
              have HFO2 : Hid (∀ w, Calls Tryz.prog 38 #[.agg #[.string m, .int .i64 r, .int .i64 k, .int .i64 s], .agg #[.string yn, .int .i64 yr, .int .i64 yk, .int .i64 ys]] w fun e w' => e = .returned (.bool f) ∧ Below w.heap.size w w') := HFO
              clear HAT HFO
              have hj1 : IntKind.i64.wrap ((j : Int) + 1 - 1) = (j : Int) := by rw [IntKind.wrap_i64]; omega
              have hj2 : (0 : Int) < (j : Int) + 1 := by omega
              have hj3 : (j : Int) < (L.length : Int) := by omega
              have hj4 : wrap64 ((j : Int) + 1 - 1) = (j : Int) := by unfold wrap64; omega
              have hj5 : IntKind.i64.wrap (j : Int) = (j : Int) := by rw [IntKind.wrap_i64]; omega
              cases f with
              | false =>
                have e5 : errB L (j + 1) = 19 := by rw [HE3.out, if_pos ⟨by omega, rfl⟩]
                have HF := Lib.hid (show valB L = 19 by rw [HBAD.out (by rw [e5]; decide), e5])
                clear e5 HE3 HBAD HNX
                rcases hall with g6 | ⟨g6, g5⟩
                all_goals
                  rw [g6] at HO
                  clear g6
                  go_wp2_with (first
                    | (go_at_call 23; refine (hnm _).mono ?_; rintro e w2 ⟨rfl, rfl⟩)
                    | (go_at_call 37; refine (HO.out _).mono ?_; rintro e w3 ⟨rfl, hb⟩; obtain ⟨e0, e1, e2, e3⟩ := HBOX.out w3 hb; have HB3 := Lib.hid (HGB.out w3 hb); have HR3 := Lib.hid (HRR.out w3 hb); clear hb))
                  obtain ⟨d0, d1, d2, d3⟩ := HAT2.out w3 HR3.out
                  have HSB : Hid (∀ w1 w2 : World, Below w3.heap.size w3 w1 → Below w1.heap.size w1 w2 → Below w3.heap.size w3 w2) := Lib.hid (fun _ _ h k => bgo h k)
                  have hBd : Below w3.heap.size w3 w3.drew := (Below.refl w3.heap.size w3).drew
                  have hbx : wr.heap.size < w3.heap.size := World.block_lt_of_cell? w3 _ e0
                  have HA1 : Hid (∀ w2, Below w3.heap.size w3 w2 → w2.cell? ⟨wr.heap.size, 0, none⟩ = some (.string m) ∧ w2.cell? ⟨wr.heap.size, 1, none⟩ = some (.int .i64 r) ∧ w2.cell? ⟨wr.heap.size, 2, none⟩ = some (.int .i64 k) ∧ w2.cell? ⟨wr.heap.size, 3, none⟩ = some (.int .i64 s)) := Lib.hid (fun w2 h => ⟨((bcell h).1 wr.heap.size 0 hbx).trans e0, ((bcell h).1 wr.heap.size 1 hbx).trans e1, ((bcell h).1 wr.heap.size 2 hbx).trans e2, ((bcell h).1 wr.heap.size 3 hbx).trans e3⟩)
                  have HA2 := Lib.hid (fun w2 (h : Below w3.heap.size w3 w2) => HAT2.out w2 (HR3.out.below h))
                  go_region_held3 (fun w' => Below w3.heap.size w3 w' ∧ (w'.cell? ⟨b, off + j * 4, none⟩ = some (.string yn) ∧ w'.cell? ⟨b, off + j * 4 + 1, none⟩ = some (.int .i64 yr) ∧ w'.cell? ⟨b, off + j * 4 + 2, none⟩ = some (.int .i64 yk) ∧ w'.cell? ⟨b, off + j * 4 + 3, none⟩ = some (.int .i64 ys)) ∧ w'.cell? ⟨wr.heap.size, 0, none⟩ = some (.string m) ∧ w'.cell? ⟨wr.heap.size, 1, none⟩ = some (.int .i64 r) ∧ w'.cell? ⟨wr.heap.size, 2, none⟩ = some (.int .i64 k) ∧ w'.cell? ⟨wr.heap.size, 3, none⟩ = some (.int .i64 s)) (go_keep)
                    (first | (go_at_call 38; refine (HFO2.out _).mono ?_; rintro e w' ⟨rfl, hb⟩; have S1 := HSB.out _ w' (by assumption) hb; obtain ⟨d0, d1, d2, d3⟩ := HA2.out w' S1; obtain ⟨e0, e1, e2, e3⟩ := HA1.out w' S1; clear hb))
                  all_goals
                    go_wp2
                    go_ret
                    exact ⟨by rw [HF.out]; rfl, bgo HB3.out S1⟩
              | true =>
                have HF := Lib.hid (HNX.out (HE3.out.trans (if_neg (fun h => by cases h.2))))
                clear HE3 HBAD HNX
                rcases hall with g6 | ⟨g6, g5⟩
                all_goals
                  rw [g6] at HO
                  clear g6
                  go_wp2_with (first
                    | (go_at_call 23; refine (hnm _).mono ?_; rintro e w2 ⟨rfl, rfl⟩)
                    | (go_at_call 37; refine (HO.out _).mono ?_; rintro e w3 ⟨rfl, hb⟩; obtain ⟨e0, e1, e2, e3⟩ := HBOX.out w3 hb; have HB3 := Lib.hid (HGB.out w3 hb); have HR3 := Lib.hid (HRR.out w3 hb); clear hb))
                  obtain ⟨d0, d1, d2, d3⟩ := HAT2.out w3 HR3.out
                  have HSB : Hid (∀ w1 w2 : World, Below w3.heap.size w3 w1 → Below w1.heap.size w1 w2 → Below w3.heap.size w3 w2) := Lib.hid (fun _ _ h k => bgo h k)
                  have hBd : Below w3.heap.size w3 w3.drew := (Below.refl w3.heap.size w3).drew
                  have hbx : wr.heap.size < w3.heap.size := World.block_lt_of_cell? w3 _ e0
                  have HA1 : Hid (∀ w2, Below w3.heap.size w3 w2 → w2.cell? ⟨wr.heap.size, 0, none⟩ = some (.string m) ∧ w2.cell? ⟨wr.heap.size, 1, none⟩ = some (.int .i64 r) ∧ w2.cell? ⟨wr.heap.size, 2, none⟩ = some (.int .i64 k) ∧ w2.cell? ⟨wr.heap.size, 3, none⟩ = some (.int .i64 s)) := Lib.hid (fun w2 h => ⟨((bcell h).1 wr.heap.size 0 hbx).trans e0, ((bcell h).1 wr.heap.size 1 hbx).trans e1, ((bcell h).1 wr.heap.size 2 hbx).trans e2, ((bcell h).1 wr.heap.size 3 hbx).trans e3⟩)
                  have HA2 := Lib.hid (fun w2 (h : Below w3.heap.size w3 w2) => HAT2.out w2 (HR3.out.below h))
                  go_region_held3 (fun w' => Below w3.heap.size w3 w' ∧ (w'.cell? ⟨b, off + j * 4, none⟩ = some (.string yn) ∧ w'.cell? ⟨b, off + j * 4 + 1, none⟩ = some (.int .i64 yr) ∧ w'.cell? ⟨b, off + j * 4 + 2, none⟩ = some (.int .i64 yk) ∧ w'.cell? ⟨b, off + j * 4 + 3, none⟩ = some (.int .i64 ys)) ∧ w'.cell? ⟨wr.heap.size, 0, none⟩ = some (.string m) ∧ w'.cell? ⟨wr.heap.size, 1, none⟩ = some (.int .i64 r) ∧ w'.cell? ⟨wr.heap.size, 2, none⟩ = some (.int .i64 k) ∧ w'.cell? ⟨wr.heap.size, 3, none⟩ = some (.int .i64 s)) (go_keep)
                    (first | (go_at_call 38; refine (HFO2.out _).mono ?_; rintro e w' ⟨rfl, hb⟩; have S1 := HSB.out _ w' (by assumption) hb; obtain ⟨d0, d1, d2, d3⟩ := HA2.out w' S1; obtain ⟨e0, e1, e2, e3⟩ := HA1.out w' S1; clear hb))
                  all_goals
                    go_wp2
                    go_roundw
                    case rel => exact ⟨j + 1 + 1, by omega, by go_num, HF, Lib.hid (bgo HB3.out S1)⟩
                    case measure => simp [intOf]; omega
    · obtain rfl : q = L.length := by omega
      have HALL := Lib.hid HN.out
      have HFN : Hid (∀ (M : List Bg) (b : Bool), M.Perm L → AscT M → (b = true ↔ AdjTo M L.length) → valB L = if b = true then 9 else 0) := Lib.hid (fun M b hp hs hb => by
        have hvv : ∀ x ∈ L, x.s = 0 ∨ x.k < x.s := fun x hx => by
          obtain ⟨i, hi, rfl⟩ := List.mem_iff_getElem.1 hx
          have := err_val (HALL.out i hi)
          simpa [List.getD, hi] using this
        have h1 := hb.trans (adj_dup hp hs hvv)
        cases b with
        | true => rw [if_pos rfl]; exact valB_dup HALL.out (h1.1 rfl)
        | false => rw [if_neg (by decide)]; exact valB_ok HALL.out (fun h => by have := h1.2 h; cases this))
      have HT2 := Lib.hid (HTW.out _ HB.out)
      clear HTW HN HALL
      go_wp2_with (go_at_call 39; refine HT2.out.mono ?_; rintro e w2 ⟨M, f, hp, hs, hf, rfl, hb⟩; have HB2 := Lib.hid (bgo HB.out hb); have HVL := Lib.hid (HFN.out M f hp hs hf); clear hp hs hf hb; cases f)
      · go_ret
        exact ⟨by rw [HVL.out]; rfl, HB2.out⟩
      · go_ret
        exact ⟨by rw [HVL.out]; rfl, HB2.out⟩
set_option maxRecDepth 100000 in
set_option maxHeartbeats 1000000 in
theorem late1_any (c : Int) (x : Bg) (gf : Nat) (w : World) (hc : w.cell? ⟨gf, 0, none⟩ = some (.int .i64 c)) (hx : x.ok) :
    Calls Tryz.prog 49 #[.agg #[.string x.n, .int .i64 x.r, .int .i64 x.k, .int .i64 x.s], .pointer (some ⟨gf, 0, none⟩)] w fun e w' => e = .returned (.bool (decide (c < x.k) || decide (c < x.s))) ∧ Below w.heap.size w w' := by
  obtain ⟨n, r, k, s⟩ := x
  have hlt1 := World.block_lt_of_cell? w _ hc
  simp only at hlt1
  have HO := Lib.hid (fun w => isopen_any n r k s w)
  have HB0 := Lib.hid (b1 (a := w) (.cells #[.string n, .int .i64 r, .int .i64 k, .int .i64 s] 27))
  clear hx
  dsimp only
  by_cases h1 : c < k
  · skip
    have e : (decide (c < k) || decide (c < s)) = true := by simp [h1]
    rw [e]
    clear e
    go_enter Tryz.func49, Tryz.ntmps49
    go_wp2
    go_ret
    exact ⟨rfl, HB0.out⟩
  · skip
    have e : (decide (c < k) || decide (c < s)) = decide (c < s) := by simp [h1]
    rw [e]
    clear e
    go_enter Tryz.func49, Tryz.ntmps49
    go_wp2
    go_ret
    exact ⟨rfl, HB0.out⟩
theorem enters_late1 : ∀ args w, (callFunc 49 args).run Tryz.prog w = .ok (.enter 49 args) w := Go.Proofs.enters_of Tryz.func49 (by kernel_rfl) rfl
set_option maxRecDepth 100000 in
set_option maxHeartbeats 1000000 in
theorem fopn1_any (nm : ByteArray) (x : Bg) (gf : Nat) (w : World) (hc : w.cell? ⟨gf, 0, none⟩ = some (.string nm)) (hx : x.ok) :
    Calls Tryz.prog 51 #[.agg #[.string x.n, .int .i64 x.r, .int .i64 x.k, .int .i64 x.s], .pointer (some ⟨gf, 0, none⟩)] w fun e w' => e = .returned (.bool (decide (x.n = nm) && x.s == 0)) ∧ Below w.heap.size w w' := by
  obtain ⟨n, r, k, s⟩ := x
  have hlt1 := World.block_lt_of_cell? w _ hc
  simp only at hlt1
  have HO := Lib.hid (fun w => isopen_any n r k s w)
  have HB0 := Lib.hid (b1 (a := w) (.cells #[.string n, .int .i64 r, .int .i64 k, .int .i64 s] 27))
  clear hx
  dsimp only
  by_cases h1 : n = nm
  · subst h1
    have e : (decide (n = n) && s == 0) = (s == 0) := by simp
    rw [e]
    clear e
    go_enter Tryz.func51, Tryz.ntmps51
    go_wp2_with (go_at_call 37; refine (HO.out _).mono ?_; rintro e w1 ⟨rfl, hb⟩; have HB := Lib.hid (bgo HB0.out hb); clear hb)
    go_ret
    exact ⟨rfl, HB.out⟩
  · have h2 : (n.toList == nm.toList) = false := beq_eq_false_iff_ne.2 (fun h => h1 (toL_inj h))
    have e : (decide (n = nm) && s == 0) = false := by simp [h1]
    rw [e]
    clear e
    go_enter Tryz.func51, Tryz.ntmps51
    go_wp2_with (go_at_call 37; refine (HO.out _).mono ?_; rintro e w1 ⟨rfl, hb⟩; have HB := Lib.hid (bgo HB0.out hb); clear hb)
    go_ret
    exact ⟨rfl, HB0.out⟩
theorem enters_fopn1 : ∀ args w, (callFunc 51 args).run Tryz.prog w = .ok (.enter 51 args) w := Go.Proofs.enters_of Tryz.func51 (by kernel_rfl) rfl
set_option maxRecDepth 100000 in
set_option maxHeartbeats 1000000 in
theorem ibnd1_any (o : Int) (x : Bg) (gf : Nat) (w : World) (hc : w.cell? ⟨gf, 0, none⟩ = some (.int .i64 o)) (hx : x.ok) :
    Calls Tryz.prog 52 #[.agg #[.string x.n, .int .i64 x.r, .int .i64 x.k, .int .i64 x.s], .pointer (some ⟨gf, 0, none⟩)] w fun e w' => e = .returned (.bool (x.r == o && x.s == 0)) ∧ Below w.heap.size w w' := by
  obtain ⟨n, r, k, s⟩ := x
  have hlt1 := World.block_lt_of_cell? w _ hc
  simp only at hlt1
  have HO := Lib.hid (fun w => isopen_any n r k s w)
  have HB0 := Lib.hid (b1 (a := w) (.cells #[.string n, .int .i64 r, .int .i64 k, .int .i64 s] 27))
  clear hx
  dsimp only
  by_cases h1 : r = o
  · subst h1
    have e : (r == r && s == 0) = (s == 0) := by simp
    rw [e]
    clear e
    go_enter Tryz.func52, Tryz.ntmps52
    go_wp2_with (go_at_call 37; refine (HO.out _).mono ?_; rintro e w1 ⟨rfl, hb⟩; have HB := Lib.hid (bgo HB0.out hb); clear hb)
    go_ret
    exact ⟨rfl, HB.out⟩
  · have h2 : (r == o) = false := beq_eq_false_iff_ne.2 h1
    have e : (r == o && s == 0) = false := by simp [h1]
    rw [e]
    clear e
    go_enter Tryz.func52, Tryz.ntmps52
    go_wp2_with (go_at_call 37; refine (HO.out _).mono ?_; rintro e w1 ⟨rfl, hb⟩; have HB := Lib.hid (bgo HB0.out hb); clear hb)
    go_ret
    exact ⟨rfl, HB0.out⟩
theorem enters_ibnd1 : ∀ args w, (callFunc 52 args).run Tryz.prog w = .ok (.enter 52 args) w := Go.Proofs.enters_of Tryz.func52 (by kernel_rfl) rfl
set_option maxRecDepth 100000 in
theorem past_any (L : List Bg) (v : Value) (c : Int) (w : World) (hv : RdBg L v w) (hL : L.length ≤ 1000000) :
    Calls Tryz.prog 24 #[v, .int .i64 c] w fun e w' => e = .returned (.bool (lateB L c)) ∧ Below w.heap.size w w' := by
  have hv2 := hv.below (b1 (.cells #[.int .i64 c] 3))
  have hts : TellsB 49 (.pointer (some ⟨w.heap.size, 0, none⟩)) (fun x => decide (c < x.k) || decide (c < x.s)) (w.alloc (.cells #[.int .i64 c] 3)) :=
    ⟨enters_late1, fun w' hb x hx => late1_any _ x w.heap.size w' (((bcell hb).1 w.heap.size 0 (by simp)).trans (by go_simp)) hx⟩
  have HC := Lib.hid (hasBg_any _ _ _ L v _ hv2 (by omega) hts)
  obtain ⟨a, cap, rfl⟩ := hv.shape
  clear hv hv2 hts
  go_enter Tryz.func24, Tryz.ntmps24
  go_wp2_with (go_at_call 48; refine HC.out.mono ?_; rintro e w1 ⟨rfl, hb⟩; have HB := Lib.hid (bgo (b1 _) hb); clear hb)
  go_ret
  exact ⟨rfl, HB.out⟩
set_option maxRecDepth 100000 in
theorem fopen_any (L : List Bg) (v : Value) (nm : ByteArray) (w : World) (hv : RdBg L v w) (hL : L.length ≤ 1000000) :
    Calls Tryz.prog 25 #[v, .string nm] w fun e w' => e = .returned (.int .i64 (opnI (opnB L nm))) ∧ Below w.heap.size w w' := by
  have hv2 := hv.below (b1 (.cells #[.string nm] 9))
  have hts : TellsB 51 (.pointer (some ⟨w.heap.size, 0, none⟩)) (fun x => decide (x.n = nm) && x.s == 0) (w.alloc (.cells #[.string nm] 9)) :=
    ⟨enters_fopn1, fun w' hb x hx => fopn1_any _ x w.heap.size w' (((bcell hb).1 w.heap.size 0 (by simp)).trans (by go_simp)) hx⟩
  have HC := Lib.hid (idxBg_any _ _ _ L v _ hv2 (by omega) hts)
  obtain ⟨a, cap, rfl⟩ := hv.shape
  clear hv hv2 hts
  go_enter Tryz.func25, Tryz.ntmps25
  go_wp2_with (go_at_call 50; refine HC.out.mono ?_; rintro e w1 ⟨rfl, hb⟩; have HB := Lib.hid (bgo (b1 _) hb); clear hb)
  go_ret
  exact ⟨rfl, HB.out⟩
/-- An open binding of an object. -/
def bndO (L : List Bg) (o : Int) : Bool := L.any (fun x => x.r == o && x.s == 0)
set_option maxRecDepth 100000 in
theorem isbnd_any (L : List Bg) (v : Value) (o : Int) (w : World) (hv : RdBg L v w) (hL : L.length ≤ 1000000) :
    Calls Tryz.prog 26 #[v, .int .i64 o] w fun e w' => e = .returned (.bool (bndO L o)) ∧ Below w.heap.size w w' := by
  have hv2 := hv.below (b1 (.cells #[.int .i64 o] 3))
  have hts : TellsB 52 (.pointer (some ⟨w.heap.size, 0, none⟩)) (fun x => x.r == o && x.s == 0) (w.alloc (.cells #[.int .i64 o] 3)) :=
    ⟨enters_ibnd1, fun w' hb x hx => ibnd1_any _ x w.heap.size w' (((bcell hb).1 w.heap.size 0 (by simp)).trans (by go_simp)) hx⟩
  have HC := Lib.hid (hasBg_any _ _ _ L v _ hv2 (by omega) hts)
  obtain ⟨a, cap, rfl⟩ := hv.shape
  clear hv hv2 hts
  go_enter Tryz.func26, Tryz.ntmps26
  go_wp2_with (go_at_call 48; refine HC.out.mono ?_; rintro e w1 ⟨rfl, hb⟩; have HB := Lib.hid (bgo (b1 _) hb); clear hb)
  go_ret
  exact ⟨rfl, HB.out⟩
set_option maxRecDepth 100000 in
set_option maxHeartbeats 1000000 in
theorem end_any (L : List Bg) (v : Value) (i : Nat) (c : Int) (w : World) (hv : RdBg L v w) (hL : L.length ≤ 1000000) (hi : i < L.length) (hc : -9223372036854775808 ≤ c ∧ c ≤ 9223372036854775807) :
    Calls Tryz.prog 28 #[v, .int .i64 (i : Int), .int .i64 c] w fun e w' => ∃ v', e = .returned v' ∧ OwnBg w.heap.size (L.set i ⟨(L.getD i Bg.z).n, (L.getD i Bg.z).r, (L.getD i Bg.z).k, c⟩) v' w' ∧ Below w.heap.size w w' := by
  have HCL := Lib.hid (cloneBg_any L v w hv hL)
  obtain ⟨a0, cap0, rfl⟩ := hv.shape
  have HI := Lib.hid hi
  have HC := Lib.hid hc
  have hi2 : (i : Int) < (L.length : Int) := by omega
  clear hv hc
  go_enter Tryz.func28, Tryz.ntmps28
  go_upto_region 2 with (go_at_call 41; refine HCL.out.mono ?_; rintro e w3 ⟨v3, rfl, ho3, hb3⟩; have HO3 := Lib.hid ho3; have B3 := Lib.hid hb3; clear ho3 hb3)
  have h3 := HO3.out.2.2
  rcases h3 with ⟨-, h3⟩ | ⟨g, c3, cur, rfl, hg3, -, h31, h32, -, -⟩
  · have := HI.out
    omega
  have hfro := HO3.out.frozen (i * 4 + 3)
  have hcell := (HO3.out.cellsAt HI.out).2.2.2
  have HST := Lib.hid (HO3.out.storedT HI.out (c := c) HC.out)
  have HG3 : Hid (w.heap.size ≤ g) := Lib.hid hg3
  clear h31 h32 hg3
  go_wp2
  go_ret
  exact ⟨_, rfl, HST.out, bset B3.out _ _ _ HG3.out⟩
/-- What insert answers. -/
def InsPost (L : List Bg) (x : Bg) (w : World) (e : Ending) (w' : World) : Prop := ∃ v' p, e = .returned v' ∧ OwnBg w.heap.size (L.take p ++ [x] ++ L.drop p) v' w' ∧ CutB L x p p ∧ Below w.heap.size w w'
set_option maxRecDepth 100000 in
set_option maxHeartbeats 2000000 in
theorem insert_any (L : List Bg) (n : ByteArray) (r k s : Int) (v : Value) (w : World) (hv : RdBg L v w) (ha : AscB L) (hL : L.length ≤ 1000000) (hx : Bg.ok ⟨n, r, k, s⟩) :
    Calls Tryz.prog 27 #[v, .agg #[.string n, .int .i64 r, .int .i64 k, .int .i64 s]] w fun e w' => InsPost L ⟨n, r, k, s⟩ w e w' := by
  have HB1 := Lib.hid (b1 (a := w) (.cells #[.string n, .int .i64 r, .int .i64 k, .int .i64 s] 27))
  have HBS := Lib.hid (bsB_any L ⟨n, r, k, s⟩ v _ (hv.below HB1.out) ha hL)
  have HV := Lib.hid hv
  have HX := Lib.hid hx
  have HBOX := Lib.hid (fun (w3 : World) (h3 : Below (w.alloc (.cells #[.string n, .int .i64 r, .int .i64 k, .int .i64 s] 27)).heap.size (w.alloc (.cells #[.string n, .int .i64 r, .int .i64 k, .int .i64 s] 27)) w3) =>
    show w3.cell? ⟨w.heap.size, 0, none⟩ = some (.string n) ∧ w3.cell? ⟨w.heap.size, 1, none⟩ = some (.int .i64 r) ∧ w3.cell? ⟨w.heap.size, 2, none⟩ = some (.int .i64 k) ∧ w3.cell? ⟨w.heap.size, 3, none⟩ = some (.int .i64 s) from
    ⟨((bcell h3).1 w.heap.size 0 (by simp)).trans (by go_simp), ((bcell h3).1 w.heap.size 1 (by simp)).trans (by go_simp), ((bcell h3).1 w.heap.size 2 (by simp)).trans (by go_simp), ((bcell h3).1 w.heap.size 3 (by simp)).trans (by go_simp)⟩)
  have HIN := Lib.hid (fun (W w3 : World) (p vb : Nat) (v3 : Value) (ho : OwnBg W.heap.size L v3 w3) (hu : OwnBg 0 [⟨n, r, k, s⟩] (.slice (some ⟨vb, 0, none⟩) 1 1) w3) (hne : v3.ownBlock ≠ some vb) (hp : p ≤ L.length) (hb : W.heap.size ≤ w3.heap.size) => insBg_any L ⟨n, r, k, s⟩ W.heap.size vb p v3 w3 ho hu hne hp hb hL)
  obtain ⟨a0, cap0, rfl⟩ := hv.shape
  clear hv ha hx
  go_enter Tryz.func27, Tryz.ntmps27
  go_upto_region 2 with (go_at_call 53; refine HBS.out.mono ?_; rintro e w2 ⟨p, f, rfl, hc, hb⟩; have HC := Lib.hid hc; obtain ⟨x0, x1, x2, x3⟩ := HBOX.out w2 hb; have B2 := Lib.hid (bgo HB1.out hb); clear hb hc)
  have HCA := Lib.hid (cloneBg_any L _ w2.drew (HV.out.below B2.out.drew) hL)
  have HCB := Lib.hid (cloneBg_any L _ (w2.alloc (.cells #[.string n, .int .i64 r, .int .i64 k, .int .i64 s] 27)).drew (HV.out.below (bal B2.out _).drew) hL)
  have HD0 : Hid (∀ w3, Below w2.drew.heap.size w2.drew w3 → Below w2.heap.size w2 w3) := Lib.hid (fun w3 h => (Below.refl w2.heap.size w2).drew.trans h)
  have HD1 : Hid (∀ w3, Below (w2.alloc (.cells #[.string n, .int .i64 r, .int .i64 k, .int .i64 s] 27)).drew.heap.size (w2.alloc (.cells #[.string n, .int .i64 r, .int .i64 k, .int .i64 s] 27)).drew w3 → Below (w2.alloc (.cells #[.string n, .int .i64 r, .int .i64 k, .int .i64 s] 27)).heap.size (w2.alloc (.cells #[.string n, .int .i64 r, .int .i64 k, .int .i64 s] 27)) w3) := Lib.hid (fun w3 h => (Below.refl _ _).drew.trans h)
  have hbx : w.heap.size < w2.heap.size := World.block_lt_of_cell? w2 _ x0
  have HXA : Hid (∀ w3, Below w2.heap.size w2 w3 → w3.cell? ⟨w.heap.size, 0, none⟩ = some (.string n) ∧ w3.cell? ⟨w.heap.size, 1, none⟩ = some (.int .i64 r) ∧ w3.cell? ⟨w.heap.size, 2, none⟩ = some (.int .i64 k) ∧ w3.cell? ⟨w.heap.size, 3, none⟩ = some (.int .i64 s)) := Lib.hid (fun w3 h => ⟨((bcell h).1 _ 0 hbx).trans x0, ((bcell h).1 _ 1 hbx).trans x1, ((bcell h).1 _ 2 hbx).trans x2, ((bcell h).1 _ 3 hbx).trans x3⟩)
  go_region_law (go_simp; first
    | (go_at_call 41; (with_reducible refine HCA.out.mono ?_); rintro e w3 ⟨v3, rfl, ho, hb⟩; have HOA := Lib.hid ho; have B3A := Lib.hid (HD0.out _ hb); obtain ⟨x0, x1, x2, x3⟩ := HXA.out w3 (HD0.out _ hb); have HNA : Hid (v3.ownBlock ≠ some w3.heap.size) := Lib.hid (fun h => absurd (World.ownsRow.lt ho.2 _ h).2 (Nat.lt_irrefl _)); clear ho hb)
    | (go_at_call 41; (with_reducible refine HCB.out.mono ?_); rintro e w3 ⟨v3, rfl, ho, hb⟩; have HOB := Lib.hid ho; have hb1 := HD1.out _ hb; have B3B := Lib.hid (bgo (b1 _) hb1); obtain ⟨x0, x1, x2, x3⟩ := HXA.out w3 B3B.out; have HNB : Hid (v3.ownBlock ≠ some w2.heap.size) := Lib.hid (fun h => by have := (World.ownsRow.lt ho.2 _ h).1; simp at this; omega); have HUB : Hid (OwnBg 0 [⟨n, r, k, s⟩] (.slice (some ⟨w2.heap.size, 0, none⟩) 1 1) w3) := Lib.hid (((OwnBg.one HX.out w2).below hb1).mono (Nat.zero_le _)); clear ho hb hb1)
    | (go_at_call 58; refine (HIN.out w2 _ p _ _ (HOA.out.alloc _) ((OwnBg.one HX.out w3).mono (Nat.zero_le _)) HNA.out HC.out.2.1 (bal B3A.out _).size).mono ?_; rintro e w4 ⟨v4, rfl, ho, hb⟩; have HO4 := Lib.hid ho; have B4 := Lib.hid (bgo B2.out ((bal B3A.out _).trans hb)); clear ho hb)
    | (go_at_call 58; refine (HIN.out w2 _ p _ _ (HOB.out.mono (by simp)) HUB.out HNB.out HC.out.2.1 B3B.out.size).mono ?_; rintro e w4 ⟨v4, rfl, ho, hb⟩; have HO4 := Lib.hid ho; have B4 := Lib.hid (bgo B2.out (B3B.out.trans hb)); clear ho hb))
  all_goals
    go_wp2
    go_ret
    exact ⟨_, p, rfl, HO4.out.mono B2.out.size, HC.out, by first | exact B4.out | exact B4.out.drew⟩
theorem asc_vld {L : List Bg} (h : VldB L) : AscB L := by
  intro i j hij hj
  have h1 := List.pairwise_iff_getElem.1 h.2.1 i j (by omega) hj hij
  have e1 : L.getD i Bg.z = L[i] := by simp [List.getD, show i < L.length by omega]
  have e2 : L.getD j Bg.z = L[j] := by simp [List.getD, hj]
  rw [e1, e2]
  unfold befB
  rcases h1 with h1 | ⟨h1, h2, -⟩
  · rw [h1]; rfl
  · simp [h1, h2]
theorem cut_plc {L : List Bg} {x : Bg} {p : Nat} (h : CutB L x p p) (hne : ∀ y ∈ L, ¬ (y.n = x.n ∧ y.k = x.k)) : PlcAt L x p := by
  refine ⟨h.2.1, fun j h1 h2 => befB_tri (h.2.2.2 j h1 h2) (hne _ (getD_mem h2)), fun h0 => befB_asym (h.2.2.1 (p - 1) (by omega))⟩
theorem busy_split (L : List Bg) (nm : ByteArray) (ob : Int) : busyB L nm ob = ((opnB L nm).isSome || bndO L ob) := by
  have h1 : (opnB L nm).isSome = L.any (fun x => decide (x.n = nm) && x.s == 0) := by
    unfold opnB
    rw [List.findIdx?_isSome]
  rw [h1]
  unfold busyB bndO
  rw [Bool.eq_iff_iff]
  simp only [Bool.or_eq_true, List.any_eq_true, Bool.and_eq_true, beq_iff_eq, decide_eq_true_eq]
  constructor
  · rintro ⟨x, hx, h2, h3 | h3⟩
    · exact .inl ⟨x, hx, h3, h2⟩
    · exact .inr ⟨x, hx, h3, h2⟩
  · rintro (⟨x, hx, h2, h3⟩ | ⟨x, hx, h2, h3⟩)
    · exact ⟨x, hx, h3, .inl h2⟩
    · exact ⟨x, hx, h3, .inr h2⟩
/-- No binding has this name and this From. -/
theorem put_ne {L : List Bg} {nm : ByteArray} {c : Int} (h : VldB L) (hl : lateB L c = false) (ho : opnB L nm = none) : ∀ y ∈ L, ¬ (y.n = nm ∧ y.k = c) := by
  rintro y hy ⟨h1, h2⟩
  have h3 := (h.1 y hy).2.2.2.2
  have h4 := late_no hl y hy
  rcases h3 with h3 | h3
  · exact opn_no ho y hy h3 h1
  · omega
theorem opnI_none : opnI none = -1 := rfl
theorem opnI_some (i : Nat) : opnI (some i) = (i : Int) := rfl
section
variable (L : List Bg) (u : Value) (nm : ByteArray) (ob c : Int) (w : World)
set_option maxRecDepth 100000 in
set_option maxHeartbeats 2000000 in
theorem pbind_bad (hv : RdBg L u w) (hL : L.length ≤ 1000000) (z : Int) (hz : valB L = z) (h0 : z ≠ 0) :
    Calls Tryz.prog 9 #[u, .string nm, .int .i64 ob, .int .i64 c] w fun e w' => e = .returned (.tuple #[.slice none 0 0, .int .i64 z]) ∧ Below w.heap.size w w' := by
  have HVV := Lib.hid hv
  have hval := pvalb_any L _ w hv hL
  rw [hz] at hval
  obtain ⟨a, cap, rfl⟩ := hv.shape
  clear hv
  go_enter Tryz.func9, Tryz.ntmps9
  go_wp2_with (first
    | (go_at_call 18; refine hval.mono ?_; rintro e w1 ⟨rfl, hb1⟩; have B1 := Lib.hid hb1; clear hb1 hval))
  go_ret2
  exact ⟨rfl, B1.out⟩
set_option maxRecDepth 100000 in
set_option maxHeartbeats 2000000 in
theorem pbind_name (hv : RdBg L u w) (hL : L.length ≤ 1000000) (hz : valB L = 0) (hn : nm.size ≤ maxLen) (h1 : nameB (byt nm) = false) :
    Calls Tryz.prog 9 #[u, .string nm, .int .i64 ob, .int .i64 c] w fun e w' => e = .returned (.tuple #[.slice none 0 0, .int .i64 6]) ∧ Below w.heap.size w w' := by
  have HVV := Lib.hid hv
  have hval := pvalb_any L _ w hv hL
  rw [hz] at hval
  have hnm := fun w => isName_any nm w hn
  rw [h1] at hnm
  obtain ⟨a, cap, rfl⟩ := hv.shape
  clear hv
  go_enter Tryz.func9, Tryz.ntmps9
  go_wp2_with (first
    | (go_at_call 18; refine hval.mono ?_; rintro e w1 ⟨rfl, hb1⟩; have B1 := Lib.hid hb1; clear hb1 hval)
    | (go_at_call 23; refine (hnm _).mono ?_; rintro e w0 ⟨rfl, rfl⟩))
  go_ret2
  exact ⟨rfl, B1.out⟩
set_option maxRecDepth 100000 in
set_option maxHeartbeats 2000000 in
theorem pbind_rng (hv : RdBg L u w) (hL : L.length ≤ 1000000) (hz : valB L = 0) (hn : nm.size ≤ maxLen) (h1 : nameB (byt nm) = true) (h2 : ob < 1 ∨ c < 1) :
    Calls Tryz.prog 9 #[u, .string nm, .int .i64 ob, .int .i64 c] w fun e w' => e = .returned (.tuple #[.slice none 0 0, .int .i64 5]) ∧ Below w.heap.size w w' := by
  have HVV := Lib.hid hv
  have hval := pvalb_any L _ w hv hL
  rw [hz] at hval
  have hnm := fun w => isName_any nm w hn
  rw [h1] at hnm
  obtain ⟨a, cap, rfl⟩ := hv.shape
  clear hv
  by_cases g1 : ob < 1
  · clear h2
    go_enter Tryz.func9, Tryz.ntmps9
    go_wp2_with (first
      | (go_at_call 18; refine hval.mono ?_; rintro e w1 ⟨rfl, hb1⟩; have B1 := Lib.hid hb1; clear hb1 hval)
      | (go_at_call 23; refine (hnm _).mono ?_; rintro e w0 ⟨rfl, rfl⟩))
    go_ret2
    exact ⟨rfl, B1.out⟩
  · have g2 : c < 1 := by omega
    clear h2
    go_enter Tryz.func9, Tryz.ntmps9
    go_wp2_with (first
      | (go_at_call 18; refine hval.mono ?_; rintro e w1 ⟨rfl, hb1⟩; have B1 := Lib.hid hb1; clear hb1 hval)
      | (go_at_call 23; refine (hnm _).mono ?_; rintro e w0 ⟨rfl, rfl⟩))
    go_ret2
    exact ⟨rfl, B1.out⟩
set_option maxRecDepth 100000 in
set_option maxHeartbeats 2000000 in
theorem pbind_late (hv : RdBg L u w) (hL : L.length ≤ 1000000) (hz : valB L = 0) (hn : nm.size ≤ maxLen) (h1 : nameB (byt nm) = true) (g1 : ¬ ob < 1) (g2 : ¬ c < 1) (h3 : lateB L c = true) :
    Calls Tryz.prog 9 #[u, .string nm, .int .i64 ob, .int .i64 c] w fun e w' => e = .returned (.tuple #[.slice none 0 0, .int .i64 19]) ∧ Below w.heap.size w w' := by
  have HVV := Lib.hid hv
  have hval := pvalb_any L _ w hv hL
  rw [hz] at hval
  have hnm := fun w => isName_any nm w hn
  rw [h1] at hnm
  have HPS := Lib.hid (fun (w' : World) (hb : Below w.heap.size w w') => past_any L _ c w' (HVV.out.below hb) hL)
  rw [h3] at HPS
  obtain ⟨a, cap, rfl⟩ := hv.shape
  clear hv
  go_enter Tryz.func9, Tryz.ntmps9
  go_wp2_with (first
    | (go_at_call 18; refine hval.mono ?_; rintro e w1 ⟨rfl, hb1⟩; have B1 := Lib.hid hb1; clear hb1 hval)
    | (go_at_call 23; refine (hnm _).mono ?_; rintro e w0 ⟨rfl, rfl⟩)
    | (go_at_call 24; refine (HPS.out _ B1.out).mono ?_; rintro e w2 ⟨rfl, hb⟩; have B2 := Lib.hid (bgo B1.out hb); clear hb))
  go_ret2
  exact ⟨rfl, B2.out⟩
set_option maxRecDepth 100000 in
set_option maxHeartbeats 2000000 in
theorem pbind_dup1 (hv : RdBg L u w) (hL : L.length ≤ 1000000) (hz : valB L = 0) (hn : nm.size ≤ maxLen) (h1 : nameB (byt nm) = true) (g1 : ¬ ob < 1) (g2 : ¬ c < 1) (h3 : lateB L c = false) (i : Nat) (h4 : opnB L nm = some i) :
    Calls Tryz.prog 9 #[u, .string nm, .int .i64 ob, .int .i64 c] w fun e w' => e = .returned (.tuple #[.slice none 0 0, .int .i64 9]) ∧ Below w.heap.size w w' := by
  have HVV := Lib.hid hv
  have hval := pvalb_any L _ w hv hL
  rw [hz] at hval
  have hnm := fun w => isName_any nm w hn
  rw [h1] at hnm
  have HPS := Lib.hid (fun (w' : World) (hb : Below w.heap.size w w') => past_any L _ c w' (HVV.out.below hb) hL)
  rw [h3] at HPS
  have HFO := Lib.hid (fun (w' : World) (hb : Below w.heap.size w w') => fopen_any L _ nm w' (HVV.out.below hb) hL)
  rw [h4, opnI_some] at HFO
  have hi0 : (0 : Int) ≤ (i : Int) := by omega
  obtain ⟨a, cap, rfl⟩ := hv.shape
  clear hv
  go_enter Tryz.func9, Tryz.ntmps9
  go_wp2_with (first
    | (go_at_call 18; refine hval.mono ?_; rintro e w1 ⟨rfl, hb1⟩; have B1 := Lib.hid hb1; clear hb1 hval)
    | (go_at_call 23; refine (hnm _).mono ?_; rintro e w0 ⟨rfl, rfl⟩)
    | (go_at_call 24; refine (HPS.out _ B1.out).mono ?_; rintro e w2 ⟨rfl, hb⟩; have B2 := Lib.hid (bgo B1.out hb); clear hb)
    | (go_at_call 25; refine (HFO.out _ B2.out).mono ?_; rintro e w3 ⟨rfl, hb⟩; have B3 := Lib.hid (bgo B2.out hb); clear hb))
  go_ret2
  exact ⟨rfl, B3.out⟩
set_option maxRecDepth 100000 in
set_option maxHeartbeats 2000000 in
theorem pbind_dup2 (hv : RdBg L u w) (hL : L.length ≤ 1000000) (hz : valB L = 0) (hn : nm.size ≤ maxLen) (h1 : nameB (byt nm) = true) (g1 : ¬ ob < 1) (g2 : ¬ c < 1) (h3 : lateB L c = false) (h4 : opnB L nm = none) (h5 : bndO L ob = true) :
    Calls Tryz.prog 9 #[u, .string nm, .int .i64 ob, .int .i64 c] w fun e w' => e = .returned (.tuple #[.slice none 0 0, .int .i64 9]) ∧ Below w.heap.size w w' := by
  have HVV := Lib.hid hv
  have hval := pvalb_any L _ w hv hL
  rw [hz] at hval
  have hnm := fun w => isName_any nm w hn
  rw [h1] at hnm
  have HPS := Lib.hid (fun (w' : World) (hb : Below w.heap.size w w') => past_any L _ c w' (HVV.out.below hb) hL)
  rw [h3] at HPS
  have HFO := Lib.hid (fun (w' : World) (hb : Below w.heap.size w w') => fopen_any L _ nm w' (HVV.out.below hb) hL)
  rw [h4, opnI_none] at HFO
  have HBO := Lib.hid (fun (w' : World) (hb : Below w.heap.size w w') => isbnd_any L _ ob w' (HVV.out.below hb) hL)
  rw [h5] at HBO
  obtain ⟨a, cap, rfl⟩ := hv.shape
  clear hv
  go_enter Tryz.func9, Tryz.ntmps9
  go_wp2_with (first
    | (go_at_call 18; refine hval.mono ?_; rintro e w1 ⟨rfl, hb1⟩; have B1 := Lib.hid hb1; clear hb1 hval)
    | (go_at_call 23; refine (hnm _).mono ?_; rintro e w0 ⟨rfl, rfl⟩)
    | (go_at_call 24; refine (HPS.out _ B1.out).mono ?_; rintro e w2 ⟨rfl, hb⟩; have B2 := Lib.hid (bgo B1.out hb); clear hb)
    | (go_at_call 25; refine (HFO.out _ B2.out).mono ?_; rintro e w3 ⟨rfl, hb⟩; have B3 := Lib.hid (bgo B2.out hb); clear hb)
    | (go_at_call 26; refine (HBO.out _ B3.out).mono ?_; rintro e w4 ⟨rfl, hb⟩; have B4 := Lib.hid (bgo B3.out hb); clear hb))
  go_ret2
  exact ⟨rfl, B4.out⟩
set_option maxRecDepth 100000 in
set_option maxHeartbeats 2000000 in
theorem pbind_ok (hv : RdBg L u w) (hL : L.length ≤ 1000000) (hz : valB L = 0) (hn : nm.size ≤ maxLen) (h1 : nameB (byt nm) = true) (g1 : ¬ ob < 1) (g2 : ¬ c < 1) (g3 : ob ≤ 9223372036854775807) (g4 : c ≤ 9223372036854775807) (h3 : lateB L c = false) (h4 : opnB L nm = none) (h5 : bndO L ob = false) :
    Calls Tryz.prog 9 #[u, .string nm, .int .i64 ob, .int .i64 c] w fun e w' => ∃ v p, e = .returned (.tuple #[v, .int .i64 0]) ∧ OwnBg w.heap.size (L.take p ++ [⟨nm, ob, c, 0⟩] ++ L.drop p) v w' ∧ CutB L ⟨nm, ob, c, 0⟩ p p ∧ Below w.heap.size w w' := by
  have HVV := Lib.hid hv
  have hval := pvalb_any L _ w hv hL
  rw [hz] at hval
  have hnm := fun w => isName_any nm w hn
  rw [h1] at hnm
  have HPS := Lib.hid (fun (w' : World) (hb : Below w.heap.size w w') => past_any L _ c w' (HVV.out.below hb) hL)
  rw [h3] at HPS
  have HFO := Lib.hid (fun (w' : World) (hb : Below w.heap.size w w') => fopen_any L _ nm w' (HVV.out.below hb) hL)
  rw [h4, opnI_none] at HFO
  have HBO := Lib.hid (fun (w' : World) (hb : Below w.heap.size w w') => isbnd_any L _ ob w' (HVV.out.below hb) hL)
  rw [h5] at HBO
  have HIN := Lib.hid (fun (w' : World) (hb : Below w.heap.size w w') => insert_any L nm ob c 0 _ w' (HVV.out.below hb) (asc_vld (vld_of hz)) hL ⟨hn, ⟨by show (-9223372036854775808 : Int) ≤ ob; omega, g3⟩, ⟨by show (-9223372036854775808 : Int) ≤ c; omega, g4⟩, by show (-9223372036854775808 : Int) ≤ 0 ∧ (0 : Int) ≤ 9223372036854775807; decide⟩)
  obtain ⟨a, cap, rfl⟩ := hv.shape
  clear hv
  go_enter Tryz.func9, Tryz.ntmps9
  go_wp2_with (first
    | (go_at_call 18; refine hval.mono ?_; rintro e w1 ⟨rfl, hb1⟩; have B1 := Lib.hid hb1; clear hb1 hval)
    | (go_at_call 23; refine (hnm _).mono ?_; rintro e w0 ⟨rfl, rfl⟩)
    | (go_at_call 24; refine (HPS.out _ B1.out).mono ?_; rintro e w2 ⟨rfl, hb⟩; have B2 := Lib.hid (bgo B1.out hb); clear hb)
    | (go_at_call 25; refine (HFO.out _ B2.out).mono ?_; rintro e w3 ⟨rfl, hb⟩; have B3 := Lib.hid (bgo B2.out hb); clear hb)
    | (go_at_call 26; refine (HBO.out _ B3.out).mono ?_; rintro e w4 ⟨rfl, hb⟩; have B4 := Lib.hid (bgo B3.out hb); clear hb)
    | (go_at_call 27; refine (HIN.out _ B4.out).mono ?_; rintro e w5 ⟨v5, p, rfl, ho, hc, hb⟩; have HO := Lib.hid ho; have HC := Lib.hid hc; have B5 := Lib.hid (bgo B4.out hb); clear ho hc hb))
  go_ret2
  exact ⟨_, p, rfl, HO.out.mono B4.out.size, HC.out, B5.out⟩
end
theorem pbind_any (L : List Bg) (u : Value) (nm : ByteArray) (ob c : Int) (w : World) (hv : RdBg L u w) (hL : L.length ≤ 1000000) (hn : nm.size ≤ maxLen) (ho : ob ≤ 9223372036854775807) (hc : c ≤ 9223372036854775807) :
    Calls Tryz.prog 9 #[u, .string nm, .int .i64 ob, .int .i64 c] w fun e w' => OutB (bndE L nm ob c) (PutB L ⟨nm, ob, c, 0⟩) w e w' := by
  by_cases hz : valB L = 0
  · cases h1 : nameB (byt nm) with
    | false =>
      have e : bndE L nm ob c = 6 := by unfold bndE; rw [if_neg (fun h => h hz), if_pos h1]
      rw [e]
      exact (pbind_name L u nm ob c w hv hL hz hn h1).mono fun e w' h => OutB.bad (by decide) h
    | true =>
      have h1' : ¬ nameB (byt nm) = false := by rw [h1]; decide
      by_cases h2 : ob < 1 ∨ c < 1
      · have e : bndE L nm ob c = 5 := by unfold bndE; rw [if_neg (fun h => h hz), if_neg h1', if_pos h2]
        rw [e]
        exact (pbind_rng L u nm ob c w hv hL hz hn h1 h2).mono fun e w' h => OutB.bad (by decide) h
      · have g1 : ¬ ob < 1 := fun h => h2 (.inl h)
        have g2 : ¬ c < 1 := fun h => h2 (.inr h)
        cases h3 : lateB L c with
        | true =>
          have e : bndE L nm ob c = 19 := by unfold bndE; rw [if_neg (fun h => h hz), if_neg h1', if_neg h2, if_pos h3]
          rw [e]
          exact (pbind_late L u nm ob c w hv hL hz hn h1 g1 g2 h3).mono fun e w' h => OutB.bad (by decide) h
        | false =>
          have h3' : ¬ lateB L c = true := by rw [h3]; decide
          cases h4 : busyB L nm ob with
          | true =>
            have e : bndE L nm ob c = 9 := by unfold bndE; rw [if_neg (fun h => h hz), if_neg h1', if_neg h2, if_neg h3', if_pos h4]
            rw [e]
            rw [busy_split] at h4
            cases h5 : opnB L nm with
            | some i => exact (pbind_dup1 L u nm ob c w hv hL hz hn h1 g1 g2 h3 i h5).mono fun e w' h => OutB.bad (by decide) h
            | none => exact (pbind_dup2 L u nm ob c w hv hL hz hn h1 g1 g2 h3 h5 (by rw [h5] at h4; simpa using h4)).mono fun e w' h => OutB.bad (by decide) h
          | false =>
            have h4' : ¬ busyB L nm ob = true := by rw [h4]; decide
            have e : bndE L nm ob c = 0 := by unfold bndE; rw [if_neg (fun h => h hz), if_neg h1', if_neg h2, if_neg h3', if_neg h4']
            rw [e]
            rw [busy_split, Bool.or_eq_false_iff] at h4
            have h6 : opnB L nm = none := by simpa using h4.1
            exact (pbind_ok L u nm ob c w hv hL hz hn h1 g1 g2 ho hc h3 h6 h4.2).mono fun e w' ⟨v, q, he, hw, hp, hb⟩ => ⟨v, _, he, hw, fun _ => ⟨q, cut_plc hp (put_ne (vld_of hz) h3 h6), by simp⟩, fun h => absurd rfl h, hb⟩
  · have e : bndE L nm ob c = valB L := by unfold bndE; rw [if_pos hz]
    rw [e]
    exact (pbind_bad L u nm ob c w hv hL _ rfl hz).mono fun e w' h => OutB.bad hz h
theorem asc_end {L : List Bg} (h : AscB L) (i : Nat) (c : Int) : AscB (L.set i ⟨(L.getD i Bg.z).n, (L.getD i Bg.z).r, (L.getD i Bg.z).k, c⟩) := by
  have key : ∀ j, ((L.set i ⟨(L.getD i Bg.z).n, (L.getD i Bg.z).r, (L.getD i Bg.z).k, c⟩).getD j Bg.z).n = (L.getD j Bg.z).n ∧ ((L.set i ⟨(L.getD i Bg.z).n, (L.getD i Bg.z).r, (L.getD i Bg.z).k, c⟩).getD j Bg.z).k = (L.getD j Bg.z).k := by
    intro j
    by_cases hj : j < L.length
    · by_cases he : i = j
      · subst he
        simp [List.getD, hj]
      · simp [List.getD, hj, List.getElem?_set, he]
    · simp [List.getD, List.getElem?_eq_none (Nat.le_of_not_lt hj), List.getElem?_set, show ¬ i = j ∨ ¬ i < L.length by omega]
      by_cases he : i = j
      · subst he; simp [hj]
      · simp [he, List.getElem?_eq_none (Nat.le_of_not_lt hj)]
  intro p q hpq hq
  have h1 := h p q hpq (by simpa using hq)
  unfold befB at *
  rw [(key p).1, (key p).2, (key q).1, (key q).2]
  exact h1
theorem set_keep {L : List Bg} {i : Nat} {c : Int} (hi : i < L.length) : ∀ y ∈ L.set i ⟨(L.getD i Bg.z).n, (L.getD i Bg.z).r, (L.getD i Bg.z).k, c⟩, ∃ x ∈ L, y.n = x.n ∧ y.k = x.k := by
  intro y hy
  rcases List.mem_or_eq_of_mem_set hy with h | rfl
  · exact ⟨y, h, rfl, rfl⟩
  · exact ⟨_, getD_mem hi, rfl, rfl⟩
section
variable (L : List Bg) (u : Value) (nm tn : ByteArray) (c : Int) (w : World)
set_option maxRecDepth 100000 in
set_option maxHeartbeats 2000000 in
theorem pren_bad (hv : RdBg L u w) (hL : L.length ≤ 1000000) (z : Int) (hz : valB L = z) (h0 : z ≠ 0) :
    Calls Tryz.prog 10 #[u, .string nm, .string tn, .int .i64 c] w fun e w' => e = .returned (.tuple #[.slice none 0 0, .int .i64 z]) ∧ Below w.heap.size w w' := by
  have HVV := Lib.hid hv
  have hval := pvalb_any L _ w hv hL
  rw [hz] at hval
  obtain ⟨a, cap, rfl⟩ := hv.shape
  clear hv
  go_enter Tryz.func10, Tryz.ntmps10
  go_wp2_with (first
    | (go_at_call 18; refine hval.mono ?_; rintro e w1 ⟨rfl, hb1⟩; have B1 := Lib.hid hb1; clear hb1 hval))
  go_ret2
  exact ⟨rfl, B1.out⟩
set_option maxRecDepth 100000 in
set_option maxHeartbeats 2000000 in
theorem pren_name (hv : RdBg L u w) (hL : L.length ≤ 1000000) (hz : valB L = 0) (hn : nm.size ≤ maxLen) (ht : tn.size ≤ maxLen) (h1 : nameB (byt nm) = false) :
    Calls Tryz.prog 10 #[u, .string nm, .string tn, .int .i64 c] w fun e w' => e = .returned (.tuple #[.slice none 0 0, .int .i64 6]) ∧ Below w.heap.size w w' := by
  have HVV := Lib.hid hv
  have hval := pvalb_any L _ w hv hL
  rw [hz] at hval
  have hnm := fun w => isName_any nm w hn
  rw [h1] at hnm
  obtain ⟨a, cap, rfl⟩ := hv.shape
  clear hv
  go_enter Tryz.func10, Tryz.ntmps10
  go_wp2_with (first
    | (go_at_call 18; refine hval.mono ?_; rintro e w1 ⟨rfl, hb1⟩; have B1 := Lib.hid hb1; clear hb1 hval)
    | (go_at_call 23; refine (hnm _).mono ?_; rintro e w0 ⟨rfl, rfl⟩))
  go_ret2
  exact ⟨rfl, B1.out⟩
set_option maxRecDepth 100000 in
set_option maxHeartbeats 2000000 in
theorem pren_name2 (hv : RdBg L u w) (hL : L.length ≤ 1000000) (hz : valB L = 0) (hn : nm.size ≤ maxLen) (ht : tn.size ≤ maxLen) (h1 : nameB (byt nm) = true) (h1t : nameB (byt tn) = false) :
    Calls Tryz.prog 10 #[u, .string nm, .string tn, .int .i64 c] w fun e w' => e = .returned (.tuple #[.slice none 0 0, .int .i64 6]) ∧ Below w.heap.size w w' := by
  have HVV := Lib.hid hv
  have hval := pvalb_any L _ w hv hL
  rw [hz] at hval
  have hnm := fun w => isName_any nm w hn
  rw [h1] at hnm
  have hnt := fun w => isName_any tn w ht
  rw [h1t] at hnt
  obtain ⟨a, cap, rfl⟩ := hv.shape
  clear hv
  go_enter Tryz.func10, Tryz.ntmps10
  go_wp2_with (first
    | (go_at_call 18; refine hval.mono ?_; rintro e w1 ⟨rfl, hb1⟩; have B1 := Lib.hid hb1; clear hb1 hval)
    | (go_at_call 23; first | ((with_reducible refine (hnm _).mono ?_); rintro e w0 ⟨rfl, rfl⟩) | ((with_reducible refine (hnt _).mono ?_); rintro e w0 ⟨rfl, rfl⟩)))
  go_ret2
  exact ⟨rfl, B1.out⟩
set_option maxRecDepth 100000 in
set_option maxHeartbeats 2000000 in
theorem pren_rng (hv : RdBg L u w) (hL : L.length ≤ 1000000) (hz : valB L = 0) (hn : nm.size ≤ maxLen) (ht : tn.size ≤ maxLen) (h1 : nameB (byt nm) = true) (h1t : nameB (byt tn) = true) (h2 : c < 1) :
    Calls Tryz.prog 10 #[u, .string nm, .string tn, .int .i64 c] w fun e w' => e = .returned (.tuple #[.slice none 0 0, .int .i64 5]) ∧ Below w.heap.size w w' := by
  have HVV := Lib.hid hv
  have hval := pvalb_any L _ w hv hL
  rw [hz] at hval
  have hnm := fun w => isName_any nm w hn
  rw [h1] at hnm
  have hnt := fun w => isName_any tn w ht
  rw [h1t] at hnt
  obtain ⟨a, cap, rfl⟩ := hv.shape
  clear hv
  go_enter Tryz.func10, Tryz.ntmps10
  go_wp2_with (first
    | (go_at_call 18; refine hval.mono ?_; rintro e w1 ⟨rfl, hb1⟩; have B1 := Lib.hid hb1; clear hb1 hval)
    | (go_at_call 23; first | ((with_reducible refine (hnm _).mono ?_); rintro e w0 ⟨rfl, rfl⟩) | ((with_reducible refine (hnt _).mono ?_); rintro e w0 ⟨rfl, rfl⟩)))
  go_ret2
  exact ⟨rfl, B1.out⟩
set_option maxRecDepth 100000 in
set_option maxHeartbeats 2000000 in
theorem pren_late (hv : RdBg L u w) (hL : L.length ≤ 1000000) (hz : valB L = 0) (hn : nm.size ≤ maxLen) (ht : tn.size ≤ maxLen) (h1 : nameB (byt nm) = true) (h1t : nameB (byt tn) = true) (g2 : ¬ c < 1) (h3 : lateB L c = true) :
    Calls Tryz.prog 10 #[u, .string nm, .string tn, .int .i64 c] w fun e w' => e = .returned (.tuple #[.slice none 0 0, .int .i64 19]) ∧ Below w.heap.size w w' := by
  have HVV := Lib.hid hv
  have hval := pvalb_any L _ w hv hL
  rw [hz] at hval
  have hnm := fun w => isName_any nm w hn
  rw [h1] at hnm
  have hnt := fun w => isName_any tn w ht
  rw [h1t] at hnt
  have HPS := Lib.hid (fun (w' : World) (hb : Below w.heap.size w w') => past_any L _ c w' (HVV.out.below hb) hL)
  rw [h3] at HPS
  obtain ⟨a, cap, rfl⟩ := hv.shape
  clear hv
  go_enter Tryz.func10, Tryz.ntmps10
  go_wp2_with (first
    | (go_at_call 18; refine hval.mono ?_; rintro e w1 ⟨rfl, hb1⟩; have B1 := Lib.hid hb1; clear hb1 hval)
    | (go_at_call 23; first | ((with_reducible refine (hnm _).mono ?_); rintro e w0 ⟨rfl, rfl⟩) | ((with_reducible refine (hnt _).mono ?_); rintro e w0 ⟨rfl, rfl⟩))
    | (go_at_call 24; refine (HPS.out _ B1.out).mono ?_; rintro e w2 ⟨rfl, hb⟩; have B2 := Lib.hid (bgo B1.out hb); clear hb))
  go_ret2
  exact ⟨rfl, B2.out⟩
set_option maxRecDepth 100000 in
set_option maxHeartbeats 2000000 in
theorem pren_unk (hv : RdBg L u w) (hL : L.length ≤ 1000000) (hz : valB L = 0) (hn : nm.size ≤ maxLen) (ht : tn.size ≤ maxLen) (h1 : nameB (byt nm) = true) (h1t : nameB (byt tn) = true) (g2 : ¬ c < 1) (h3 : lateB L c = false) (h4 : opnB L nm = none) :
    Calls Tryz.prog 10 #[u, .string nm, .string tn, .int .i64 c] w fun e w' => e = .returned (.tuple #[.slice none 0 0, .int .i64 8]) ∧ Below w.heap.size w w' := by
  have HVV := Lib.hid hv
  have hval := pvalb_any L _ w hv hL
  rw [hz] at hval
  have hnm := fun w => isName_any nm w hn
  rw [h1] at hnm
  have hnt := fun w => isName_any tn w ht
  rw [h1t] at hnt
  have HPS := Lib.hid (fun (w' : World) (hb : Below w.heap.size w w') => past_any L _ c w' (HVV.out.below hb) hL)
  rw [h3] at HPS
  have HFO := Lib.hid (fun (w' : World) (hb : Below w.heap.size w w') => fopen_any L _ nm w' (HVV.out.below hb) hL)
  rw [h4, opnI_none] at HFO
  obtain ⟨a, cap, rfl⟩ := hv.shape
  clear hv
  go_enter Tryz.func10, Tryz.ntmps10
  go_wp2_with (first
    | (go_at_call 18; refine hval.mono ?_; rintro e w1 ⟨rfl, hb1⟩; have B1 := Lib.hid hb1; clear hb1 hval)
    | (go_at_call 23; first | ((with_reducible refine (hnm _).mono ?_); rintro e w0 ⟨rfl, rfl⟩) | ((with_reducible refine (hnt _).mono ?_); rintro e w0 ⟨rfl, rfl⟩))
    | (go_at_call 24; refine (HPS.out _ B1.out).mono ?_; rintro e w2 ⟨rfl, hb⟩; have B2 := Lib.hid (bgo B1.out hb); clear hb)
    | (go_at_call 25; refine (HFO.out _ B2.out).mono ?_; rintro e w3 ⟨rfl, hb⟩; have B3 := Lib.hid (bgo B2.out hb); clear hb))
  go_ret2
  exact ⟨rfl, B3.out⟩
set_option maxRecDepth 100000 in
set_option maxHeartbeats 2000000 in
theorem pren_dup (hv : RdBg L u w) (hL : L.length ≤ 1000000) (hz : valB L = 0) (hn : nm.size ≤ maxLen) (ht : tn.size ≤ maxLen) (h1 : nameB (byt nm) = true) (h1t : nameB (byt tn) = true) (g2 : ¬ c < 1) (h3 : lateB L c = false) (i : Nat) (h4 : opnB L nm = some i) (hi : i < L.length) (j : Nat) (h5 : opnB L tn = some j) :
    Calls Tryz.prog 10 #[u, .string nm, .string tn, .int .i64 c] w fun e w' => e = .returned (.tuple #[.slice none 0 0, .int .i64 9]) ∧ Below w.heap.size w w' := by
  have HVV := Lib.hid hv
  have hval := pvalb_any L _ w hv hL
  rw [hz] at hval
  have hnm := fun w => isName_any nm w hn
  rw [h1] at hnm
  have hnt := fun w => isName_any tn w ht
  rw [h1t] at hnt
  have HPS := Lib.hid (fun (w' : World) (hb : Below w.heap.size w w') => past_any L _ c w' (HVV.out.below hb) hL)
  rw [h3] at HPS
  have HFO := Lib.hid (fun (w' : World) (hb : Below w.heap.size w w') => fopen_any L _ nm w' (HVV.out.below hb) hL)
  rw [h4, opnI_some] at HFO
  have HFT := Lib.hid (fun (w' : World) (hb : Below w.heap.size w w') => fopen_any L _ tn w' (HVV.out.below hb) hL)
  rw [h5, opnI_some] at HFT
  have hi0 : (0 : Int) ≤ (i : Int) := by omega
  have hi1 : ¬ (i : Int) < 0 := by omega
  have hi2 : (i : Int) < (L.length : Int) := by omega
  have HI := Lib.hid hi
  have hj0 : (0 : Int) ≤ (j : Int) := by omega
  obtain ⟨a, cap, rfl⟩ := hv.shape
  clear hv
  go_enter Tryz.func10, Tryz.ntmps10
  go_wp2_with (first
    | (go_at_call 18; refine hval.mono ?_; rintro e w1 ⟨rfl, hb1⟩; have B1 := Lib.hid hb1; clear hb1 hval)
    | (go_at_call 23; first | ((with_reducible refine (hnm _).mono ?_); rintro e w0 ⟨rfl, rfl⟩) | ((with_reducible refine (hnt _).mono ?_); rintro e w0 ⟨rfl, rfl⟩))
    | (go_at_call 24; refine (HPS.out _ B1.out).mono ?_; rintro e w2 ⟨rfl, hb⟩; have B2 := Lib.hid (bgo B1.out hb); clear hb)
    | (go_at_call 25; first | ((with_reducible refine (HFO.out _ B2.out).mono ?_); rintro e w3 ⟨rfl, hb⟩; have B3 := Lib.hid (bgo B2.out hb); clear hb) | ((with_reducible refine (HFT.out _ B3.out).mono ?_); rintro e w4 ⟨rfl, hb⟩; have B4 := Lib.hid (bgo B3.out hb); clear hb)))
  go_ret2
  exact ⟨rfl, B4.out⟩
set_option maxRecDepth 100000 in
set_option maxHeartbeats 2000000 in
theorem pren_ord (hv : RdBg L u w) (hL : L.length ≤ 1000000) (hz : valB L = 0) (hn : nm.size ≤ maxLen) (ht : tn.size ≤ maxLen) (h1 : nameB (byt nm) = true) (h1t : nameB (byt tn) = true) (g2 : ¬ c < 1) (h3 : lateB L c = false) (i : Nat) (h4 : opnB L nm = some i) (hi : i < L.length) (h5 : opnB L tn = none) (h6 : c ≤ (L.getD i Bg.z).k) :
    Calls Tryz.prog 10 #[u, .string nm, .string tn, .int .i64 c] w fun e w' => e = .returned (.tuple #[.slice none 0 0, .int .i64 19]) ∧ Below w.heap.size w w' := by
  have HVV := Lib.hid hv
  have hval := pvalb_any L _ w hv hL
  rw [hz] at hval
  have hnm := fun w => isName_any nm w hn
  rw [h1] at hnm
  have hnt := fun w => isName_any tn w ht
  rw [h1t] at hnt
  have HPS := Lib.hid (fun (w' : World) (hb : Below w.heap.size w w') => past_any L _ c w' (HVV.out.below hb) hL)
  rw [h3] at HPS
  have HFO := Lib.hid (fun (w' : World) (hb : Below w.heap.size w w') => fopen_any L _ nm w' (HVV.out.below hb) hL)
  rw [h4, opnI_some] at HFO
  have HFT := Lib.hid (fun (w' : World) (hb : Below w.heap.size w w') => fopen_any L _ tn w' (HVV.out.below hb) hL)
  rw [h5, opnI_none] at HFT
  have hi0 : (0 : Int) ≤ (i : Int) := by omega
  have hi1 : ¬ (i : Int) < 0 := by omega
  have hi2 : (i : Int) < (L.length : Int) := by omega
  have HI := Lib.hid hi
  obtain ⟨a, cap, rfl⟩ := hv.shape
  obtain ⟨f0, hf0⟩ : ∃ f0, (L.getD i Bg.z).k = f0 := ⟨_, rfl⟩
  have HF0 := Lib.hid hf0
  rw [hf0] at h6
  have HAT : Hid (∀ w2, RdBg L (.slice a L.length cap) w2 → ∃ b off, a = some ⟨b, off, none⟩ ∧ w2.cell? ⟨b, off + i * 4 + 2, none⟩ = some (.int .i64 f0)) := Lib.hid (fun w2 h2 => by
    obtain ⟨b, off, hbo, -, -, -, d2, -⟩ := h2.at_ (j := i) hi
    rw [hf0] at d2
    exact ⟨b, off, hbo, d2⟩)
  obtain ⟨b, off, rfl, c2⟩ := HAT.out w HVV.out
  have HCL : Hid (∀ w2, Below w.heap.size w w2 → w2.cell? ⟨b, off + i * 4 + 2, none⟩ = some (.int .i64 f0)) := Lib.hid (fun w2 h2 => by
    obtain ⟨b', off', hbo, d2⟩ := HAT.out w2 (HVV.out.below h2)
    simp only [Option.some.injEq, Addr.mk.injEq, and_true] at hbo
    obtain ⟨rfl, rfl⟩ := hbo
    exact d2)
  clear c2 HAT hf0
  clear hv
  go_enter Tryz.func10, Tryz.ntmps10
  go_wp2_with (first
    | (go_at_call 18; refine hval.mono ?_; rintro e w1 ⟨rfl, hb1⟩; have B1 := Lib.hid hb1; clear hb1 hval)
    | (go_at_call 23; first | ((with_reducible refine (hnm _).mono ?_); rintro e w0 ⟨rfl, rfl⟩) | ((with_reducible refine (hnt _).mono ?_); rintro e w0 ⟨rfl, rfl⟩))
    | (go_at_call 24; refine (HPS.out _ B1.out).mono ?_; rintro e w2 ⟨rfl, hb⟩; have B2 := Lib.hid (bgo B1.out hb); clear hb)
    | (go_at_call 25; first | ((with_reducible refine (HFO.out _ B2.out).mono ?_); rintro e w3 ⟨rfl, hb⟩; have B3 := Lib.hid (bgo B2.out hb); clear hb) | ((with_reducible refine (HFT.out _ B3.out).mono ?_); rintro e w4 ⟨rfl, hb⟩; have B4 := Lib.hid (bgo B3.out hb); have c2 := HCL.out _ B4.out; clear hb)))
  go_ret2
  exact ⟨rfl, B4.out⟩
set_option maxRecDepth 100000 in
set_option maxHeartbeats 4000000 in
theorem pren_ok (hv : RdBg L u w) (hL : L.length ≤ 1000000) (hz : valB L = 0) (hn : nm.size ≤ maxLen) (ht : tn.size ≤ maxLen) (h1 : nameB (byt nm) = true) (h1t : nameB (byt tn) = true) (g2 : ¬ c < 1) (h3 : lateB L c = false) (i : Nat) (h4 : opnB L nm = some i) (hi : i < L.length) (h5 : opnB L tn = none) (h6 : ¬ c ≤ (L.getD i Bg.z).k) (hc : c ≤ 9223372036854775807) :
    Calls Tryz.prog 10 #[u, .string nm, .string tn, .int .i64 c] w fun e w' => ∃ v p, e = .returned (.tuple #[v, .int .i64 0]) ∧ OwnBg w.heap.size ((L.set i ⟨(L.getD i Bg.z).n, (L.getD i Bg.z).r, (L.getD i Bg.z).k, c⟩).take p ++ [⟨tn, (L.getD i Bg.z).r, c, 0⟩] ++ (L.set i ⟨(L.getD i Bg.z).n, (L.getD i Bg.z).r, (L.getD i Bg.z).k, c⟩).drop p) v w' ∧ CutB (L.set i ⟨(L.getD i Bg.z).n, (L.getD i Bg.z).r, (L.getD i Bg.z).k, c⟩) ⟨tn, (L.getD i Bg.z).r, c, 0⟩ p p ∧ Below w.heap.size w w' := by
  have HVV := Lib.hid hv
  have hval := pvalb_any L _ w hv hL
  rw [hz] at hval
  have hnm := fun w => isName_any nm w hn
  rw [h1] at hnm
  have hnt := fun w => isName_any tn w ht
  rw [h1t] at hnt
  have HPS := Lib.hid (fun (w' : World) (hb : Below w.heap.size w w') => past_any L _ c w' (HVV.out.below hb) hL)
  rw [h3] at HPS
  have HFO := Lib.hid (fun (w' : World) (hb : Below w.heap.size w w') => fopen_any L _ nm w' (HVV.out.below hb) hL)
  rw [h4, opnI_some] at HFO
  have HFT := Lib.hid (fun (w' : World) (hb : Below w.heap.size w w') => fopen_any L _ tn w' (HVV.out.below hb) hL)
  rw [h5, opnI_none] at HFT
  have hi0 : (0 : Int) ≤ (i : Int) := by omega
  have hi1 : ¬ (i : Int) < 0 := by omega
  have hi2 : (i : Int) < (L.length : Int) := by omega
  have HI := Lib.hid hi
  have HEN := Lib.hid (fun (w' : World) (hb : Below w.heap.size w w') => end_any L _ i c w' (HVV.out.below hb) hL hi ⟨by omega, hc⟩)
  have HIN := Lib.hid (fun (v' : Value) (w' : World) (hr : RdBg (L.set i ⟨(L.getD i Bg.z).n, (L.getD i Bg.z).r, (L.getD i Bg.z).k, c⟩) v' w') => insert_any (L.set i ⟨(L.getD i Bg.z).n, (L.getD i Bg.z).r, (L.getD i Bg.z).k, c⟩) tn (L.getD i Bg.z).r c 0 v' w' hr (asc_end (asc_vld (vld_of hz)) i c) (by rw [List.length_set]; exact hL) ⟨ht, (hv.1.at_ i).2.1, ⟨by show (-9223372036854775808 : Int) ≤ c; omega, hc⟩, by show (-9223372036854775808 : Int) ≤ 0 ∧ (0 : Int) ≤ 9223372036854775807; decide⟩)
  obtain ⟨a, cap, rfl⟩ := hv.shape
  obtain ⟨f0, hf0⟩ : ∃ f0, (L.getD i Bg.z).k = f0 := ⟨_, rfl⟩
  have HF0 := Lib.hid hf0
  obtain ⟨r0, hr0⟩ : ∃ r0, (L.getD i Bg.z).r = r0 := ⟨_, rfl⟩
  have HR0 := Lib.hid hr0
  rw [hf0] at h6
  have HAT : Hid (∀ w2, RdBg L (.slice a L.length cap) w2 → ∃ b off, a = some ⟨b, off, none⟩ ∧ (w2.cell? ⟨b, off + i * 4 + 2, none⟩ = some (.int .i64 f0) ∧ w2.cell? ⟨b, off + i * 4 + 1, none⟩ = some (.int .i64 r0))) := Lib.hid (fun w2 h2 => by
    obtain ⟨b, off, hbo, -, -, d1, d2, -⟩ := h2.at_ (j := i) hi
    rw [hf0] at d2
    rw [hr0] at d1
    exact ⟨b, off, hbo, d2, d1⟩)
  obtain ⟨b, off, rfl, c2⟩ := HAT.out w HVV.out
  have HCL : Hid (∀ w2, Below w.heap.size w w2 → (w2.cell? ⟨b, off + i * 4 + 2, none⟩ = some (.int .i64 f0) ∧ w2.cell? ⟨b, off + i * 4 + 1, none⟩ = some (.int .i64 r0))) := Lib.hid (fun w2 h2 => by
    obtain ⟨b', off', hbo, d2⟩ := HAT.out w2 (HVV.out.below h2)
    simp only [Option.some.injEq, Addr.mk.injEq, and_true] at hbo
    obtain ⟨rfl, rfl⟩ := hbo
    exact d2)
  clear c2 HAT hf0
  rw [hr0] at HEN HIN
  clear hr0
  clear hv
  rw [HR0.out]
  go_enter Tryz.func10, Tryz.ntmps10
  go_upto_region 17 with (first
    | (go_at_call 18; refine hval.mono ?_; rintro e w1 ⟨rfl, hb1⟩; have B1 := Lib.hid hb1; clear hb1 hval)
    | (go_at_call 23; first | ((with_reducible refine (hnm _).mono ?_); rintro e w0 ⟨rfl, rfl⟩) | ((with_reducible refine (hnt _).mono ?_); rintro e w0 ⟨rfl, rfl⟩))
    | (go_at_call 24; refine (HPS.out _ B1.out).mono ?_; rintro e w2 ⟨rfl, hb⟩; have B2 := Lib.hid (bgo B1.out hb); clear hb)
    | (go_at_call 25; first | ((with_reducible refine (HFO.out _ B2.out).mono ?_); rintro e w3 ⟨rfl, hb⟩; have B3 := Lib.hid (bgo B2.out hb); clear hb) | ((with_reducible refine (HFT.out _ B3.out).mono ?_); rintro e w4 ⟨rfl, hb⟩; have B4 := Lib.hid (bgo B3.out hb); obtain ⟨c2, c1⟩ := HCL.out _ B4.out; clear hb)))
  go_region_law (go_simp; first
    | (go_at_call 28; refine (HEN.out _ B4.out.drew).mono ?_; rintro e w5 ⟨v5, rfl, ho, hb⟩; have HO := Lib.hid ho; have B5 := Lib.hid (bgo B4.out.drew hb); obtain ⟨c2, c1⟩ := HCL.out _ B5.out; clear hb ho)
    | (go_at_call 27; refine (HIN.out _ _ HO.out.rd).mono ?_; rintro e w6 ⟨v6, p, rfl, ho, hq, hb⟩; have HO6 := Lib.hid ho; have HC := Lib.hid hq; have B6 := Lib.hid (bgo B5.out hb); clear ho hq hb))
  all_goals
    go_wp2
    go_ret2
    exact ⟨_, p, rfl, HO6.out.mono B5.out.size, HC.out, by first | exact B6.out | exact B6.out.drew⟩
end
theorem pren_any (L : List Bg) (u : Value) (nm tn : ByteArray) (c : Int) (w : World) (hv : RdBg L u w) (hL : L.length ≤ 1000000) (hn : nm.size ≤ maxLen) (ht : tn.size ≤ maxLen) (hc : c ≤ 9223372036854775807) :
    Calls Tryz.prog 10 #[u, .string nm, .string tn, .int .i64 c] w fun e w' => OutB (renE L nm tn c) (MovB L nm tn c) w e w' := by
  by_cases hz : valB L = 0
  · cases h1 : nameB (byt nm) with
    | false =>
      have e : renE L nm tn c = 6 := by unfold renE; rw [if_neg (fun h => h hz), if_pos h1]
      rw [e]
      exact (pren_name L u nm tn c w hv hL hz hn ht h1).mono fun e w' h => OutB.bad (by decide) h
    | true =>
      have h1' : ¬ nameB (byt nm) = false := by rw [h1]; decide
      cases h2 : nameB (byt tn) with
      | false =>
        have e : renE L nm tn c = 6 := by unfold renE; rw [if_neg (fun h => h hz), if_neg h1', if_pos h2]
        rw [e]
        exact (pren_name2 L u nm tn c w hv hL hz hn ht h1 h2).mono fun e w' h => OutB.bad (by decide) h
      | true =>
        have h2' : ¬ nameB (byt tn) = false := by rw [h2]; decide
        by_cases g2 : c < 1
        · have e : renE L nm tn c = 5 := by unfold renE; rw [if_neg (fun h => h hz), if_neg h1', if_neg h2', if_pos g2]
          rw [e]
          exact (pren_rng L u nm tn c w hv hL hz hn ht h1 h2 g2).mono fun e w' h => OutB.bad (by decide) h
        · cases h3 : lateB L c with
          | true =>
            have e : renE L nm tn c = 19 := by unfold renE; rw [if_neg (fun h => h hz), if_neg h1', if_neg h2', if_neg g2, if_pos h3]
            rw [e]
            exact (pren_late L u nm tn c w hv hL hz hn ht h1 h2 g2 h3).mono fun e w' h => OutB.bad (by decide) h
          | false =>
            have h3' : ¬ lateB L c = true := by rw [h3]; decide
            cases h4 : opnB L nm with
            | none =>
              have e : renE L nm tn c = 8 := by unfold renE; rw [if_neg (fun h => h hz), if_neg h1', if_neg h2', if_neg g2, if_neg h3', h4]
              rw [e]
              exact (pren_unk L u nm tn c w hv hL hz hn ht h1 h2 g2 h3 h4).mono fun e w' h => OutB.bad (by decide) h
            | some i =>
              have hi := opn_lt h4
              cases h5 : opnB L tn with
              | some j =>
                have e : renE L nm tn c = 9 := by unfold renE; rw [if_neg (fun h => h hz), if_neg h1', if_neg h2', if_neg g2, if_neg h3', h4, h5]; rfl
                rw [e]
                exact (pren_dup L u nm tn c w hv hL hz hn ht h1 h2 g2 h3 i h4 hi j h5).mono fun e w' h => OutB.bad (by decide) h
              | none =>
                by_cases h6 : c ≤ (L.getD i Bg.z).k
                · have e : renE L nm tn c = 19 := by unfold renE; rw [if_neg (fun h => h hz), if_neg h1', if_neg h2', if_neg g2, if_neg h3', h4, h5]; exact if_pos h6
                  rw [e]
                  exact (pren_ord L u nm tn c w hv hL hz hn ht h1 h2 g2 h3 i h4 hi h5 h6).mono fun e w' h => OutB.bad (by decide) h
                · have e : renE L nm tn c = 0 := by unfold renE; rw [if_neg (fun h => h hz), if_neg h1', if_neg h2', if_neg g2, if_neg h3', h4, h5]; exact if_neg h6
                  rw [e]
                  exact (pren_ok L u nm tn c w hv hL hz hn ht h1 h2 g2 h3 i h4 hi h5 h6 hc).mono fun e w' ⟨v, q, he, hw, hp, hb⟩ => ⟨v, _, he, hw, fun _ => ⟨i, h4, q, cut_plc hp (fun y hy hne => by obtain ⟨x, hx, e1, e2⟩ := set_keep hi y hy; exact put_ne (vld_of hz) h3 h5 x hx ⟨e1 ▸ hne.1, e2 ▸ hne.2⟩), by simp⟩, fun h => absurd rfl h, hb⟩
  · have e : renE L nm tn c = valB L := by unfold renE; rw [if_pos hz]
    rw [e]
    exact (pren_bad L u nm tn c w hv hL _ rfl hz).mono fun e w' h => OutB.bad hz h
set_option maxRecDepth 100000 in
set_option maxHeartbeats 2000000 in
theorem plook_any (L : List Bg) (v : Value) (nm : ByteArray) (c : Int) (w : World) (hv : RdBg L v w) (hL : L.length ≤ 1000000000000) :
    Calls Tryz.prog 11 #[v, .string nm, .int .i64 c] w fun e w' => e = .returned (.tuple #[.int .i64 (lokO L nm c), .bool (lokB L nm c).isSome]) ∧ Below w.heap.size w w' := by
  obtain ⟨a, cap, rfl⟩ := hv.shape
  have HV := Lib.hid hv
  clear hv
  go_enter Tryz.func11, Tryz.ntmps11
  go_wp2
  go_loopw [9, 12] (fun _ i wr => ∃ q : Nat, q ≤ L.length ∧ i = .int .i64 (q : Int) ∧ Hid (∀ x, x < q → (fun x : Bg => decide (x.n = nm) && hldB x.k x.s c) (L.getD x Bg.z) = false) ∧ Hid (Below w.heap.size w wr)) (fun _ i _ => L.length - (intOf i).toNat)
  case atStart => exact ⟨0, by omega, rfl, Lib.hid (fun x hx => by omega), Lib.hid (Below.refl _ _)⟩
  case round =>
    obtain ⟨q, hq, rfl, HN, HB⟩ := hrel
    by_cases hlt : q < L.length
    · have hqi : (q : Int) < (L.length : Int) := by omega
      obtain ⟨b, off, rfl, hbl, c0, c1, c2, c3⟩ := (HV.out.below HB.out).at_ hlt
      have HIT := Lib.hid (fun h => show lokB L nm c = some q from fib_hit (p := fun x => decide (x.n = nm) && hldB x.k x.s c) HN.out hlt h)
      have HNX : Hid ((fun x : Bg => decide (x.n = nm) && hldB x.k x.s c) (L.getD q Bg.z) = false → ∀ x, x < q + 1 → (fun x : Bg => decide (x.n = nm) && hldB x.k x.s c) (L.getD x Bg.z) = false) := Lib.hid (fun h x hx => by
        rcases Nat.lt_or_ge x q with h' | h'
        · exact HN.out x h'
        · obtain rfl : x = q := by omega
          exact h)
      obtain ⟨y, hy⟩ : ∃ y, L.getD q Bg.z = y := ⟨_, rfl⟩
      rw [hy] at c0 c1 c2 c3 HIT HNX
      have HY := Lib.hid hy
      clear hy
      obtain ⟨m, o, f, t⟩ := y
      simp only at c0 c1 c2 c3
      have hh := fun w => holds18_any m o f t c w
      by_cases hm : m = nm
      · cases hr : hldB f t c with
        | true =>
          have HF := Lib.hid (HIT.out (by simp [hm, hr]))
          rw [hr] at hh
          clear HIT HNX hr
          subst hm
          go_wp2_with (go_at_call 29; refine (hh _).mono ?_; rintro e w3 ⟨rfl, hb⟩; have HB3 := Lib.hid (bgo (bal HB.out _) hb); have e1 := ((bcell hb).1 wr.heap.size 1 (by simp)).trans (show (wr.alloc (.cells #[.string m, .int .i64 o, .int .i64 f, .int .i64 t] 27)).cell? ⟨wr.heap.size, 1, none⟩ = some (.int .i64 o) by go_simp); clear hb)
          go_ret2
          have he : lokO L m c = o := by unfold lokO; rw [HF.out]; show (L.getD q Bg.z).r = o; rw [HY.out]
          exact ⟨by rw [he, HF.out]; rfl, HB3.out⟩
        | false =>
          have HF := Lib.hid (HNX.out (by simp [hr]))
          rw [hr] at hh
          clear HIT HNX hr
          subst hm
          go_wp2_with (go_at_call 29; refine (hh _).mono ?_; rintro e w3 ⟨rfl, hb⟩; have HB3 := Lib.hid (bgo (bal HB.out _) hb); have e1 := ((bcell hb).1 wr.heap.size 1 (by simp)).trans (show (wr.alloc (.cells #[.string m, .int .i64 o, .int .i64 f, .int .i64 t] 27)).cell? ⟨wr.heap.size, 1, none⟩ = some (.int .i64 o) by go_simp); clear hb)
          go_roundw
          case rel => exact ⟨q + 1, by omega, by go_num, HF, Lib.hid HB3.out⟩
          case measure => simp [intOf]; omega
      · have HF := Lib.hid (HNX.out (by simp [hm]))
        have hm2 : (m.toList == nm.toList) = false := beq_eq_false_iff_ne.2 (fun h => hm (toL_inj h))
        clear HIT HNX
        go_wp2_with (fail)
        go_roundw
        case rel => exact ⟨q + 1, by omega, by go_num, HF, Lib.hid (bal HB.out _)⟩
        case measure => simp [intOf]; omega
    · obtain rfl : q = L.length := by omega
      have HF := Lib.hid (show lokB L nm c = none from fib_miss HN.out)
      go_wp2
      go_ret2
      exact ⟨by unfold lokO; rw [HF.out]; rfl, HB.out⟩
theorem opn_k1 : opnB [⟨⟨#[97]⟩, 1, 1, 0⟩] ⟨#[97]⟩ = some 0 := by decide
theorem opn_k2 : opnB [⟨⟨#[97]⟩, 1, 1, 0⟩] ⟨#[98]⟩ = none := by decide
theorem late_k : lateB [⟨⟨#[97]⟩, 1, 1, 0⟩] 2 = false := by decide
theorem lok_k1 : lokB [⟨⟨#[97]⟩, 1, 1, 2⟩, ⟨⟨#[98]⟩, 1, 2, 0⟩] ⟨#[97]⟩ 1 = some 0 := by decide
theorem lok_k2 : lokB [⟨⟨#[97]⟩, 1, 1, 2⟩, ⟨⟨#[98]⟩, 1, 2, 0⟩] ⟨#[97]⟩ 2 = none := by decide
theorem nm_k1 : nameB (byt ⟨#[97]⟩) = true := by decide
theorem nm_k2 : nameB (byt ⟨#[98]⟩) = true := by decide
theorem val_k0 : valB [] = 0 := valB_ok (fun q h => absurd h (by simp)) (fun ⟨i, k, _, h, _⟩ => absurd h (by simp))
theorem val_k1 : valB [⟨⟨#[97]⟩, 1, 1, 0⟩] = 0 := vld_ok ⟨fun x hx => by
  rw [List.mem_singleton] at hx
  subst hx
  exact ⟨nm_k1, by decide, by decide, by decide, .inl rfl⟩, List.pairwise_singleton _ _, List.pairwise_singleton _ _⟩
theorem bef_k : befB ⟨⟨#[97]⟩, 1, 1, 2⟩ ⟨⟨#[98]⟩, 1, 2, 0⟩ = true := by unfold befB lessK; rw [Lib.toList_data, Lib.toList_data]; decide
theorem kbind_any (w : World) : Calls Tryz.prog 9 #[.slice none 0 0, .string ⟨#[97]⟩, .int .i64 1, .int .i64 1] w fun e w' => ∃ v, e = .returned (.tuple #[v, .int .i64 0]) ∧ OwnBg w.heap.size [⟨⟨#[97]⟩, 1, 1, 0⟩] v w' ∧ Below w.heap.size w w' := by
  refine (pbind_ok [] (.slice none 0 0) ⟨#[97]⟩ 1 1 w (OwnBg.empty 0 w).rd (by simp) val_k0 (by decide) nm_k1 (by decide) (by decide) (by decide) (by decide) rfl rfl rfl).mono ?_
  rintro e w' ⟨v, p, rfl, ho, -, hb⟩
  exact ⟨v, rfl, by simpa using ho, hb⟩
theorem kren_any (u : Value) (w : World) (h : RdBg [⟨⟨#[97]⟩, 1, 1, 0⟩] u w) : Calls Tryz.prog 10 #[u, .string ⟨#[97]⟩, .string ⟨#[98]⟩, .int .i64 2] w fun e w' => ∃ v, e = .returned (.tuple #[v, .int .i64 0]) ∧ OwnBg w.heap.size [⟨⟨#[97]⟩, 1, 1, 2⟩, ⟨⟨#[98]⟩, 1, 2, 0⟩] v w' ∧ Below w.heap.size w w' := by
  refine (pren_ok [⟨⟨#[97]⟩, 1, 1, 0⟩] u ⟨#[97]⟩ ⟨#[98]⟩ 2 w h (by simp) val_k1 (by decide) (by decide) nm_k1 nm_k2 (by decide) late_k 0 opn_k1 (by simp) opn_k2 (by decide) (by decide)).mono ?_
  rintro e w' ⟨v, p, rfl, ho, hc, hb⟩
  have hp : p = 1 := by
    have h1 := hc.2.1
    simp at h1
    rcases Nat.lt_or_ge p 1 with h2 | h2
    · obtain rfl : p = 0 := by omega
      have h3 := hc.2.2.2 0 (Nat.le_refl _) (by simp)
      have h4 := bef_k
      simp [List.getD] at h3
      rw [h4] at h3
      cases h3
    · omega
  subst hp
  exact ⟨v, rfl, by simpa [List.getD] using ho, hb⟩
theorem klook1_any (u : Value) (w : World) (h : RdBg [⟨⟨#[97]⟩, 1, 1, 2⟩, ⟨⟨#[98]⟩, 1, 2, 0⟩] u w) : Calls Tryz.prog 11 #[u, .string ⟨#[97]⟩, .int .i64 1] w fun e w' => e = .returned (.tuple #[.int .i64 1, .bool true]) ∧ Below w.heap.size w w' := by
  have h1 := plook_any [⟨⟨#[97]⟩, 1, 1, 2⟩, ⟨⟨#[98]⟩, 1, 2, 0⟩] u ⟨#[97]⟩ 1 w h (by simp)
  unfold lokO at h1
  rw [lok_k1] at h1
  exact h1
theorem klook2_any (u : Value) (w : World) (h : RdBg [⟨⟨#[97]⟩, 1, 1, 2⟩, ⟨⟨#[98]⟩, 1, 2, 0⟩] u w) : Calls Tryz.prog 11 #[u, .string ⟨#[97]⟩, .int .i64 2] w fun e w' => e = .returned (.tuple #[.int .i64 0, .bool false]) ∧ Below w.heap.size w w' := by
  have h1 := plook_any [⟨⟨#[97]⟩, 1, 1, 2⟩, ⟨⟨#[98]⟩, 1, 2, 0⟩] u ⟨#[97]⟩ 2 w h (by simp)
  unfold lokO at h1
  rw [lok_k2] at h1
  exact h1
set_option maxRecDepth 100000 in
set_option maxHeartbeats 2000000 in
theorem known18_any (w : World) : Calls Tryz.prog 4 #[] w fun e w' => e = .returned (.bool true) ∧ Below w.heap.size w w' := by
  have hk := kbind_any w
  go_enter Tryz.func4, Tryz.ntmps4
  go_upto_region 3 with (first
    | (go_at_call 9; refine hk.mono ?_; rintro e w1 ⟨u1, rfl, ho, hb⟩; have HO := Lib.hid ho; have B1 := Lib.hid hb; clear ho hb)
    | (go_at_call 10; refine (kren_any _ _ HO.out.rd).mono ?_; rintro e w2 ⟨u2, rfl, ho, hb⟩; have HR := Lib.hid (fun (w' : World) (h : Below w2.heap.size w2 w') => ho.rd.below h); have B2 := Lib.hid (bgo B1.out hb); obtain ⟨ua, uc, hu⟩ := ho.rd.shape; have hu : u2 = .slice ua 2 uc := hu; subst hu; clear ho hb))
  obtain ⟨b, off, rfl, hbl, -, -, -, -⟩ := (HR.out _ (Below.refl _ _)).at_ (j := 0) (by simp)
  have HAT : Hid (∀ w', Below w2.heap.size w2 w' → w'.cell? ⟨b, off + 3, none⟩ = some (.int .i64 2) ∧ w'.cell? ⟨b, off + 4, none⟩ = some (.string ⟨#[98]⟩)) := Lib.hid (fun w' h => by
    obtain ⟨b1, off1, e1, -, -, -, -, c3⟩ := (HR.out _ h).at_ (j := 0) (by simp)
    obtain ⟨b2, off2, e2, -, d0, -, -, -⟩ := (HR.out _ h).at_ (j := 1) (by simp)
    simp only [Option.some.injEq, Addr.mk.injEq, and_true] at e1 e2
    obtain ⟨rfl, rfl⟩ := e1
    obtain ⟨rfl, rfl⟩ := e2
    exact ⟨by simpa [List.getD] using c3, by simpa [List.getD] using d0⟩)
  clear hk
  go_upto_region 5 with (first
    | (go_at_call 11; (with_reducible refine (klook1_any _ w2 (HR.out _ (Below.refl _ _))).mono ?_); rintro e w3 ⟨rfl, hb⟩; have B3 := Lib.hid (bgo B2.out hb); have G3 := Lib.hid hb; clear hb)
    | (go_at_call 11; (with_reducible refine (klook2_any _ w3 (HR.out _ G3.out)).mono ?_); rintro e w4 ⟨rfl, hb⟩; have B4 := Lib.hid (bgo B3.out hb); obtain ⟨c0, c1⟩ := HAT.out _ (bgo G3.out hb); clear hb))
  go_wp2
  go_ret
  exact ⟨rfl, B4.out⟩
/-- In the loop: the first i of C are what is kept of the first j of L, from j on C is L. -/
def DelI (p : Bg → Bool) (L C : List Bg) (i j : Nat) : Prop := C.length = L.length ∧ C.take i = (L.take j).filter (fun x => !p x) ∧ i ≤ j ∧ j ≤ L.length ∧ C.drop j = L.drop j
theorem bg_take1 {L : List Bg} {q : Nat} (h : q < L.length) : L.take (q + 1) = L.take q ++ [L.getD q Bg.z] := by
  rw [List.take_succ_eq_append_getElem h]
  simp [List.getD, h]
theorem DelI.at_ {p : Bg → Bool} {L C : List Bg} {i j : Nat} (h : DelI p L C i j) (hj : j < L.length) : C.getD j Bg.z = L.getD j Bg.z := by
  have h1 : (C.drop j)[0]? = (L.drop j)[0]? := by rw [h.2.2.2.2]
  rw [List.getElem?_drop, List.getElem?_drop] at h1
  simp only [Nat.add_zero] at h1
  simp [List.getD, h1]
theorem DelI.drop {p : Bg → Bool} {L C : List Bg} {i j : Nat} (h : DelI p L C i j) (hj : j < L.length) (hp : p (L.getD j Bg.z) = true) : DelI p L C i (j + 1) := by
  refine ⟨h.1, ?_, by have := h.2.2.1; omega, by omega, ?_⟩
  · rw [bg_take1 hj, List.filter_append, h.2.1]
    generalize L.getD j Bg.z = x at hp
    simp [hp]
  · have h1 := congrArg (List.drop 1) h.2.2.2.2
    rw [List.drop_drop, List.drop_drop] at h1
    exact h1
theorem DelI.keep {p : Bg → Bool} {L C : List Bg} {i j : Nat} (h : DelI p L C i j) (hj : j < L.length) (hp : p (L.getD j Bg.z) = false) : DelI p L (C.set i (L.getD j Bg.z)) (i + 1) (j + 1) := by
  have hij := h.2.2.1
  have hl := h.1
  refine ⟨by rw [List.length_set, h.1], ?_, by omega, by omega, ?_⟩
  · have h2 : (C.set i (L.getD j Bg.z)).getD i Bg.z = L.getD j Bg.z := by simp [List.getD, show i < C.length by omega]
    rw [bg_take1 (by rw [List.length_set]; omega), h2, bg_take1 hj, List.filter_append, ← h.2.1, List.take_set_of_le (Nat.le_refl i)]
    generalize L.getD j Bg.z = x at hp
    simp [hp]
  · rw [List.drop_set, if_pos (by omega)]
    have h1 := congrArg (List.drop 1) h.2.2.2.2
    rw [List.drop_drop, List.drop_drop] at h1
    exact h1
theorem filt_len (p : Bg → Bool) (L : List Bg) : (L.filter p).length ≤ L.length := List.length_filter_le _ _
/-- What DeleteFunc answers. -/
def DelPost (B : Nat) (p : Bg → Bool) (L : List Bg) (w : World) (e : Ending) (w' : World) : Prop := ∃ v, e = .returned v ∧ OwnBg B (L.filter (fun x => !p x)) v w' ∧ Below B w w'
set_option maxRecDepth 100000 in
set_option maxHeartbeats 4000000 in
theorem delfB_any (f : FuncId) (c1 : Value) (p : Bg → Bool) (L : List Bg) (B : Nat) (v : Value) (w : World) (ho : OwnBg B L v w) (hB : B ≤ w.heap.size) (hL : L.length ≤ 1000000)
    (ht : (∀ args w, (callFunc f args).run Tryz.prog w = .ok (.enter f args) w) ∧ ∀ w', Below B w w' → ∀ x : Bg, x.ok → Calls Tryz.prog f #[.agg #[.string x.n, .int .i64 x.r, .int .i64 x.k, .int .i64 x.s], c1] w' fun e w'' => e = .returned (.bool (p x)) ∧ Below w'.heap.size w' w'') :
    Calls Tryz.prog 40 #[v, .func (.func f) #[] #[c1]] w fun e w' => DelPost B p L w e w' := by
  have HI := Lib.hid (idxBg_any f c1 p L v w ho.rd (by omega) ⟨ht.1, fun w' hb => ht.2 w' (hb.mono hB)⟩)
  obtain ⟨he, hf⟩ := ht
  have HF := Lib.hid hf
  have HBB := Lib.hid hB
  clear hf
  cases hq : L.findIdx? p with
  | none =>
    rw [hq] at HI
    have hall : L.filter (fun x => !p x) = L := by
      rw [List.filter_eq_self]
      intro x hx
      rw [List.findIdx?_eq_none_iff] at hq
      simpa using hq x hx
    have HO := Lib.hid ho
    have HA := Lib.hid hall
    obtain ⟨a, cap, rfl⟩ := ho.rd.shape
    clear ho hq hall
    go_enter Tryz.func40, Tryz.ntmps40
    go_wp2_with (go_at_call 50; refine HI.out.mono ?_; rintro e w1 ⟨rfl, hb⟩; have B1 := Lib.hid hb; clear hb; simp only [opnI])
    go_ret
    exact ⟨_, rfl, by rw [HA.out]; exact HO.out.below B1.out, B1.out.mono HBB.out⟩
  | some q =>
    rw [hq] at HI
    obtain ⟨hql, hqp, hqn⟩ := List.findIdx?_eq_some_iff_getElem.1 hq
    have HSTART : Hid (DelI p L L q (q + 1)) := Lib.hid ⟨rfl, by
      rw [bg_take1 hql, List.filter_append]
      have e1 : (L.take q).filter (fun x => !p x) = L.take q := by
        rw [List.filter_eq_self]
        intro x hx
        obtain ⟨j, hj, rfl⟩ := List.mem_iff_getElem.1 hx
        rw [List.length_take] at hj
        have := hqn j (by omega)
        rw [List.getElem_take]
        simpa using this
      rw [e1]
      simp [List.getD, hql, hqp], by omega, by omega, rfl⟩
    have ho3 := ho.2.2
    rcases ho3 with ⟨-, h3⟩ | ⟨g, cap, cur, rfl, hg, -, hc1, hc2, -, -⟩
    · omega
    have HO := Lib.hid ho
    have HG := Lib.hid hg
    have hq0 : ¬ ((q : Int) = -1) := by omega
    have hq1 : ((q : Int) == -1) = false := beq_eq_false_iff_ne.2 hq0
    have hqL : q < L.length := hql
    clear ho hq hql hqp hqn hg
    go_enter Tryz.func40, Tryz.ntmps40
    go_wp2_with (go_at_call 50; refine HI.out.mono ?_; rintro e w1 ⟨rfl, hb⟩; have B1 := Lib.hid (hb.mono HBB.out); have O1 := Lib.hid (HO.out.below hb); clear hb; simp only [opnI])
    go_loopw [5, 6, 7] (fun ii jj _ wr => ∃ (i j : Nat) (C : List Bg), q + 1 ≤ j ∧ i < j ∧ j ≤ L.length ∧ i < L.length ∧ ii = .int .i64 (i : Int) ∧ jj = .int .i64 (j : Int) ∧ Hid (DelI p L C i j) ∧ Hid (OwnBg B C (.slice (some ⟨g, 0, none⟩) L.length cap) wr) ∧ Hid (Below B w wr)) (fun _ jj _ _ => L.length - (intOf jj).toNat)
    case atStart => exact ⟨q, q + 1, L, by omega, by omega, by omega, hqL, rfl, by go_num, HSTART, O1, B1⟩
    case round =>
      clear HSTART O1 B1
      obtain ⟨i, j, C, hqj, hij, hjL, hiL, rfl, rfl, HD, HC, HB⟩ := hrel
      have hi2 : (i : Int) < (L.length : Int) := by omega
      by_cases hlt : j < L.length
      · have hj2 : (j : Int) < (L.length : Int) := by omega
        have hCL := HD.out.1
        have HC2 : Hid (OwnBg B C (.slice (some ⟨g, 0, none⟩) C.length cap) wr) := Lib.hid (by rw [hCL]; exact HC.out)
        obtain ⟨c0, c1', c2, c3⟩ := HC2.out.cellsAt (j := j) (by rw [hCL]; exact hlt)
        rw [HD.out.at_ hlt] at c0 c1' c2 c3
        have HDR := Lib.hid (fun h => HD.out.drop hlt h)
        have HKP := Lib.hid (fun h => HD.out.keep hlt h)
        have HOK := Lib.hid (show (L.getD j Bg.z).ok from HO.out.1.at_ j)
        generalize L.getD j Bg.z = x at *
        have HBW := Lib.hid (show B ≤ wr.heap.size from Nat.le_trans HBB.out HB.out.size)
        have HX := Lib.hid (fun (w2 : World) (h2 : Below B w w2) => HF.out w2 h2 x HOK.out)
        obtain ⟨n, r, k, s⟩ := x
        simp only at c0 c1' c2 c3
        have HXX : Hid (∀ w2, Below B w w2 → Calls Tryz.prog f #[.agg #[.string n, .int .i64 r, .int .i64 k, .int .i64 s], c1] w2 fun e w'' => e = .returned (.bool (p ⟨n, r, k, s⟩)) ∧ Below w2.heap.size w2 w'') := HX
        have HBX : Hid (Below B w (wr.alloc (.cells #[.string n, .int .i64 r, .int .i64 k, .int .i64 s] 27))) := Lib.hid (HB.out.alloc HBW.out _)
        clear HX
        cases hp : p ⟨n, r, k, s⟩ with
        | true =>
          rw [hp] at HXX
          have HN := Lib.hid (HDR.out hp)
          clear HDR HKP hp
          go_wp2_with ((refine (HXX.out _ HBX.out).mono ?_); rintro e w3 ⟨rfl, hb⟩; have B3 := Lib.hid (HBX.out.trans (hb.mono (Nat.le_trans HBW.out (by simp)))); have O3 := Lib.hid ((HC.out.alloc _).below hb); clear hb)
          go_roundw
          case rel => exact ⟨i, j + 1, C, by omega, by omega, by omega, hiL, rfl, by go_num, HN, O3, B3⟩
          case measure => simp [intOf]; omega
        | false =>
          rw [hp] at HXX
          have HN := Lib.hid (HKP.out hp)
          clear HDR HKP hp
          go_upto_region 9 with ((refine (HXX.out _ HBX.out).mono ?_); rintro e w3 ⟨rfl, hb⟩; have B3 := Lib.hid (HBX.out.trans (hb.mono (Nat.le_trans HBW.out (by simp)))); have O3 := Lib.hid ((HC2.out.alloc _).below hb); have d0 := ((bcell hb).1 wr.heap.size 0 (by simp)).trans (show (wr.alloc (.cells #[.string n, .int .i64 r, .int .i64 k, .int .i64 s] 27)).cell? ⟨wr.heap.size, 0, none⟩ = some (.string n) by go_simp); have d1 := ((bcell hb).1 wr.heap.size 1 (by simp)).trans (show (wr.alloc (.cells #[.string n, .int .i64 r, .int .i64 k, .int .i64 s] 27)).cell? ⟨wr.heap.size, 1, none⟩ = some (.int .i64 r) by go_simp); have d2 := ((bcell hb).1 wr.heap.size 2 (by simp)).trans (show (wr.alloc (.cells #[.string n, .int .i64 r, .int .i64 k, .int .i64 s] 27)).cell? ⟨wr.heap.size, 2, none⟩ = some (.int .i64 k) by go_simp); have d3 := ((bcell hb).1 wr.heap.size 3 (by simp)).trans (show (wr.alloc (.cells #[.string n, .int .i64 r, .int .i64 k, .int .i64 s] 27)).cell? ⟨wr.heap.size, 3, none⟩ = some (.int .i64 s) by go_simp); clear hb)
          have f0 := O3.out.frozen (i * 4)
          have f1 := O3.out.frozen (i * 4 + 1)
          have f2 := O3.out.frozen (i * 4 + 2)
          have f3 := O3.out.frozen (i * 4 + 3)
          obtain ⟨g0, g1, g2, g3⟩ := O3.out.cellsAt (j := i) (by rw [hCL]; exact hiL)
          have HST := Lib.hid (O3.out.stored i HOK.out)
          clear c0 c1' c2 c3
          go_wp2
          go_roundw
          case rel => exact ⟨i + 1, j + 1, C.set i ⟨n, r, k, s⟩, by omega, by omega, by omega, by omega, by go_num, by go_num, HN, Lib.hid (by have h := HST.out; rw [hCL] at h; exact h), Lib.hid ((((B3.out.setCell (p := ⟨g, _, none⟩) HG.out _).setCell (p := ⟨g, _, none⟩) HG.out _).setCell (p := ⟨g, _, none⟩) HG.out _).setCell (p := ⟨g, _, none⟩) HG.out _)⟩
          case measure => simp [intOf]; omega
      · obtain rfl : j = L.length := by omega
        have hCL := HD.out.1
        have hfin := HD.out.2.1
        rw [List.take_length] at hfin
        have HFN := Lib.hid hfin
        obtain ⟨i0, hi0, hz0, hz1, hz2⟩ := info_parts info_bg
        have HI0 := Lib.hid hi0
        have HZ0 := Lib.hid hz0
        have HCR : Hid (wr.ownsRow B 27 4 (.slice (some ⟨g, 0, none⟩) L.length cap) L.length (cellsBg C)) := Lib.hid (by have h := HC.out.2; rw [hCL] at h; exact h)
        have HCU := Lib.hid (row_cut HCR.out (Nat.le_of_lt hiL))
        have hcc : ¬ (cap = i) := by omega
        have hiL2 : (i : Int) ≤ (L.length : Int) := by omega
        have hnc2 : (L.length : Int) ≤ (cap : Int) := by omega
        have hic : (i : Int) ≤ (cap : Int) := by omega
        have hcm : cap ≤ 9223372036854775807 := by have := hc2; unfold maxLen at this; omega
        have HBW := Lib.hid (show B ≤ wr.heap.size from Nat.le_trans HBB.out HB.out.size)
        clear hfin hi0 hz0 hz1 hz2
        go_wp2_with (refine wp_clearC (k := 4) rfl _ 22 rfl _ i0 Tryz.underlying22 HI0.out HZ0.out rfl (by intro v hv; simp [Value.cells] at hv; rcases hv with rfl | rfl | rfl | rfl <;> rfl) (by decide) HCU.out (i * 4) (L.length - i) _ rfl (by omega) (Nat.le_refl _) (by omega) ?_; intro w2 ho2 hg2; have HO2 := Lib.hid ho2; have HB2 : Hid (Below B w w2) := Lib.hid (row_bel HB.out HBW.out hg2 HG.out); clear ho2 hg2)
        go_ret
        have hlen : (L.filter (fun x => !p x)).length = i := by rw [← HFN.out, List.length_take]; omega
        refine ⟨_, rfl, ⟨fun y hy => HO.out.1 y ((List.mem_filter.1 hy).1), ?_⟩, HB2.out⟩
        rw [hlen, ← HFN.out, cellsBg_take]
        exact HO2.out
theorem pk_del {P : List Pn} (x : Bg) : (!(x.s == 0) && !covP x.k x.s P) = !keepB P x := by unfold keepB; rw [Bool.not_or]
set_option maxRecDepth 100000 in
set_option maxHeartbeats 1000000 in
theorem prune1_any (P : List Pn) (pv : Value) (x : Bg) (gf : Nat) (w : World) (hc : w.cell? ⟨gf, 0, none⟩ = some pv) (hP : RdPn P pv w) (hPl : P.length ≤ 1000000000000) (hx : x.ok) :
    Calls Tryz.prog 42 #[.agg #[.string x.n, .int .i64 x.r, .int .i64 x.k, .int .i64 x.s], .pointer (some ⟨gf, 0, none⟩)] w fun e w' => e = .returned (.bool (!keepB P x)) ∧ Below w.heap.size w w' := by
  rw [← pk_del]
  obtain ⟨n, r, k, s⟩ := x
  have hlt1 := World.block_lt_of_cell? w _ hc
  simp only at hlt1
  obtain ⟨pa, pc, rfl⟩ := hP.shape
  have HO := Lib.hid (fun w => isopen_any n r k s w)
  have HB0 := Lib.hid (b1 (a := w) (.cells #[.string n, .int .i64 r, .int .i64 k, .int .i64 s] 27))
  have HBOX := Lib.hid (fun (w3 : World) (h3 : Below (w.alloc (.cells #[.string n, .int .i64 r, .int .i64 k, .int .i64 s] 27)).heap.size (w.alloc (.cells #[.string n, .int .i64 r, .int .i64 k, .int .i64 s] 27)) w3) =>
    show w3.cell? ⟨gf, 0, none⟩ = some (.slice pa P.length pc) ∧ w3.cell? ⟨w.heap.size, 2, none⟩ = some (.int .i64 k) ∧ w3.cell? ⟨w.heap.size, 3, none⟩ = some (.int .i64 s) from
    ⟨((bcell h3).1 gf 0 (by simp; omega)).trans (((bcell HB0.out).1 gf 0 hlt1).trans hc), ((bcell h3).1 w.heap.size 2 (by simp)).trans (by go_simp), ((bcell h3).1 w.heap.size 3 (by simp)).trans (by go_simp)⟩)
  have HCV := Lib.hid (fun (w3 : World) (h3 : Below w.heap.size w w3) => pcovp_any P _ k s w3 (hP.below h3) hPl)
  clear hx hP
  dsimp only
  cases ho : (s == 0) with
  | true =>
    rw [ho] at HO
    go_enter Tryz.func42, Tryz.ntmps42
    go_wp2_with (go_at_call 37; refine (HO.out _).mono ?_; rintro e w1 ⟨rfl, hb⟩; have HB := Lib.hid (bgo HB0.out hb); clear hb)
    go_ret
    exact ⟨rfl, HB.out⟩
  | false =>
    rw [ho] at HO
    clear hc ho
    generalize covP k s P = f at *
    go_enter Tryz.func42, Tryz.ntmps42
    go_wp2_with (first
      | (go_at_call 37; refine (HO.out _).mono ?_; rintro e w1 ⟨rfl, hb⟩; have HB := Lib.hid (bgo HB0.out hb); obtain ⟨e0, e1, e2⟩ := HBOX.out w1 hb; clear hb)
      | (go_at_call 43; refine (HCV.out _ HB.out).mono ?_; rintro e w2 ⟨rfl, hb⟩; have HB2 := Lib.hid (bgo HB.out hb); clear hb))
    go_ret
    exact ⟨by simp, HB2.out⟩
theorem enters_prune1 : ∀ args w, (callFunc 42 args).run Tryz.prog w = .ok (.enter 42 args) w := Go.Proofs.enters_of Tryz.func42 (by kernel_rfl) rfl
/-- What Prune answers. -/
def PrnPost (P : List Pn) (L : List Bg) (w : World) (e : Ending) (w' : World) : Prop := ∃ v, e = .returned v ∧ OwnBg w.heap.size (prnB P L) v w' ∧ Below w.heap.size w w'
set_option maxRecDepth 100000 in
set_option maxHeartbeats 1000000 in
theorem pprune_any (L : List Bg) (u : Value) (P : List Pn) (pv : Value) (w : World) (hv : RdBg L u w) (hL : L.length ≤ 1000000) (hp : RdPn P pv w) (hP : P.length ≤ 1000000000000) :
    Calls Tryz.prog 21 #[u, pv] w fun e w' => PrnPost P L w e w' := by
  obtain ⟨pa, pc, rfl⟩ := hp.shape
  have HB0 := Lib.hid (b1 (a := w) (.cells #[.slice pa P.length pc] 24))
  have HCL := Lib.hid (cloneBg_any L u _ (hv.below HB0.out) hL)
  have HTS := Lib.hid (fun (w1 : World) (h1 : Below (w.alloc (.cells #[.slice pa P.length pc] 24)).heap.size (w.alloc (.cells #[.slice pa P.length pc] 24)) w1) =>
    (show (∀ args w, (callFunc 42 args).run Tryz.prog w = .ok (.enter 42 args) w) ∧ ∀ w', Below (w.alloc (.cells #[.slice pa P.length pc] 24)).heap.size w1 w' → ∀ x : Bg, x.ok → Calls Tryz.prog 42 #[.agg #[.string x.n, .int .i64 x.r, .int .i64 x.k, .int .i64 x.s], .pointer (some ⟨w.heap.size, 0, none⟩)] w' fun e w'' => e = .returned (.bool (!keepB P x)) ∧ Below w'.heap.size w' w'' from
    ⟨enters_prune1, fun w' hb x hx => prune1_any P _ x w.heap.size w' (((bcell (h1.trans hb)).1 w.heap.size 0 (by simp)).trans (by go_simp)) (hp.below (HB0.out.trans ((h1.trans hb).mono (by simp)))) hP hx⟩))
  obtain ⟨a, cap, rfl⟩ := hv.shape
  have HL := Lib.hid hL
  clear hv hp
  go_enter Tryz.func21, Tryz.ntmps21
  go_wp2_with (first
    | (go_at_call 41; refine HCL.out.mono ?_; rintro e w1 ⟨v1, rfl, ho, hb⟩; have HO := Lib.hid ho; have B1 := Lib.hid hb; clear ho hb)
    | (go_at_call 40; refine (delfB_any _ _ (fun x => !keepB P x) L _ v1 w1 HO.out B1.out.size HL.out (HTS.out w1 B1.out)).mono ?_; rintro e w2 ⟨v2, rfl, ho, hb⟩; have HO2 := Lib.hid ho; have B2 := Lib.hid (B1.out.trans hb); clear ho hb))
  go_ret
  refine ⟨_, rfl, ?_, HB0.out.trans (B2.out.mono (by simp))⟩
  have h := HO2.out.mono (B' := w.heap.size) (by simp)
  simp only [Bool.not_not] at h
  exact h
end Go.Proofs.YtpehbfghajlgmaaGreat
