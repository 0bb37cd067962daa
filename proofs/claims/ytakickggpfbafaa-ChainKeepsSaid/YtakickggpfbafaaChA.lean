/- The program's Validate of a chain; slices.IndexFunc at versions; Find. -/
import Derived.Test.YtakickggpfbafaaChR
import Derived.Shelf.Abstract
import Derived.Lib.Walk
import Derived.Deep.CutBlock
import Derived.Deep.CutRange
namespace Go.Proofs.Ytakickggpfbafaa
open Go.RowKit
set_option linter.unusedVariables false
set_option linter.unusedSimpArgs false
set_option maxRecDepth 100000 in
set_option maxHeartbeats 2000000 in
theorem pvalc_any (L : List Vs) (v : Value) (w : World) (hv : RdVs L v w) (hL : L.length ≤ 1000000000000) :
    Calls Try.prog 11 #[v] w fun e w' => e = .returned (.int .i64 (valC L)) ∧ Below w.heap.size w w' := by
  obtain ⟨a, cap, rfl⟩ := hv.shape
  have HV := Lib.hid hv
  clear hv
  go_enter Try.func11, Try.ntmps11
  go_wp2
  go_loopw [3, 4, 7] (fun _ _ i wr => ∃ q : Nat, q ≤ L.length ∧ i = .int .i64 (q : Int) ∧ Hid (∀ x, x < q → errC L x = 0) ∧ Hid (Below w.heap.size w wr)) (fun _ _ i _ => L.length - (intOf i).toNat)
  case atStart => exact ⟨0, by omega, rfl, Lib.hid (fun x hx => by omega), Lib.hid (Below.refl _ _)⟩
  case round =>
    obtain ⟨q, hq, rfl, HN, HB⟩ := hrel
    by_cases hlt : q < L.length
    · have hqi : (q : Int) < (L.length : Int) := by omega
      obtain ⟨b, off, rfl, hbl, c0, c1, c2, c3⟩ := (HV.out.below HB.out).at_ hlt
      have hok := (HV.out.1.at_ q)
      have HBAD := Lib.hid (fun (he : errC L q ≠ 0) => valC_bad HN.out hlt he)
      have HNX : Hid (errC L q = 0 → ∀ x, x < q + 1 → errC L x = 0) := Lib.hid (fun h x hx => by
        rcases Nat.lt_or_ge x q with h' | h'
        · exact HN.out x h'
        · obtain rfl : x = q := by omega
          exact h)
      have HE : Hid (errC L q = if (L.getD q Vs.z).n < 1 ∨ (L.getD q Vs.z).r < 0 ∨ (L.getD q Vs.z).k < 0 then 5 else if (L.getD q Vs.z).r ≠ 0 ∧ (L.getD q Vs.z).r ≤ (L.getD q Vs.z).n then 19 else if 0 < q ∧ ((L.getD (q - 1) Vs.z).r = 0 ∨ (L.getD q Vs.z).n < (L.getD (q - 1) Vs.z).r) then 19 else 0) := Lib.hid rfl
      obtain ⟨n, hn⟩ : ∃ n, (L.getD q Vs.z).n = n := ⟨_, rfl⟩
      obtain ⟨r, hr⟩ : ∃ r, (L.getD q Vs.z).r = r := ⟨_, rfl⟩
      obtain ⟨k, hk⟩ : ∃ k, (L.getD q Vs.z).k = k := ⟨_, rfl⟩
      obtain ⟨s, hs⟩ : ∃ s, (L.getD q Vs.z).s = s := ⟨_, rfl⟩
      obtain ⟨sa, sn, sc, rfl⟩ : ∃ a n c, s = .slice a n c := by rw [← hs]; exact hok.2.2.2
      rw [hn, hr, hk] at HE
      rw [hn] at c0
      rw [hr] at c1
      rw [hk] at c2
      rw [hs] at c3
      clear hok hn hr hk hs
      by_cases h1 : n < 1 ∨ r < 0 ∨ k < 0
      · have e5 : errC L q = 5 := by rw [HE.out, if_pos h1]
        have HF := Lib.hid (show valC L = 5 by rw [HBAD.out (by rw [e5]; decide), e5])
        clear e5 HE HBAD HNX
        by_cases g1 : n < 1
        · clear h1
          go_wp2
          go_ret
          exact ⟨by rw [HF.out]; rfl, bal HB.out _⟩
        · by_cases g2 : r < 0
          · clear h1
            go_wp2
            go_ret
            exact ⟨by rw [HF.out]; rfl, bal HB.out _⟩
          · have g3 : k < 0 := by omega
            clear h1
            go_wp2
            go_ret
            exact ⟨by rw [HF.out]; rfl, bal HB.out _⟩
      · have g1 : ¬ n < 1 := fun h => h1 (.inl h)
        have g2 : ¬ r < 0 := fun h => h1 (.inr (.inl h))
        have g3 : ¬ k < 0 := fun h => h1 (.inr (.inr h))
        have HE2 := Lib.hid (HE.out.trans (if_neg h1))
        clear HE h1
        by_cases h2 : r ≠ 0 ∧ r ≤ n
        · have e5 : errC L q = 19 := by rw [HE2.out, if_pos h2]
          have HF := Lib.hid (show valC L = 19 by rw [HBAD.out (by rw [e5]; decide), e5])
          obtain ⟨g4, g5⟩ := h2
          clear e5 HE2 HBAD HNX
          go_wp2
          go_ret
          exact ⟨by rw [HF.out]; rfl, bal HB.out _⟩
        · have HE3 := Lib.hid (HE2.out.trans (if_neg h2))
          have hall : r = 0 ∨ (¬ r = 0 ∧ ¬ r ≤ n) := by omega
          clear HE2 h2
          cases q with
          | zero =>
            have HF := Lib.hid (HNX.out (HE3.out.trans (if_neg (by omega))))
            clear HE3 HBAD HNX
            rcases hall with rfl | ⟨g4, g5⟩
            all_goals
              simp only [Nat.zero_mul, Nat.add_zero] at c0 c1 c2 c3
              go_wp2
              go_quiet (fail)
              go_wp2
              go_roundw
              case rel => exact ⟨1, by omega, by go_num, HF, Lib.hid (below_drewN (bal HB.out _) _)⟩
              case measure => simp [intOf]; omega
          | succ j =>
            obtain ⟨b', off', hbo, -, -, d1, -, -⟩ := (HV.out.below HB.out).at_ (j := j) (by omega)
            simp only [Option.some.injEq, Addr.mk.injEq, and_true] at hbo
            obtain ⟨rfl, rfl⟩ := hbo
            rw [show j + 1 - 1 = j from rfl] at HE3
            obtain ⟨y, hy⟩ : ∃ y, (L.getD j Vs.z).r = y := ⟨_, rfl⟩
            rw [hy] at d1 HE3
            clear hy
            have hj1 : IntKind.i64.wrap ((j : Int) + 1 - 1) = (j : Int) := by rw [IntKind.wrap_i64]; omega
            have hj2 : (0 : Int) < (j : Int) + 1 := by omega
            have hj3 : (j : Int) < (L.length : Int) := by omega
            have hj4 : wrap64 ((j : Int) + 1 - 1) = (j : Int) := by unfold wrap64; omega
            by_cases h4 : y = 0
            · have e5 : errC L (j + 1) = 19 := by rw [HE3.out, if_pos ⟨by omega, .inl h4⟩]
              have HF := Lib.hid (show valC L = 19 by rw [HBAD.out (by rw [e5]; decide), e5])
              clear e5 HE3 HBAD HNX
              subst h4
              rcases hall with rfl | ⟨g4, g5⟩
              all_goals
                go_wp2
                go_quiet (fail)
                go_wp2
                go_ret
                exact ⟨by rw [HF.out]; rfl, below_drewN (bal HB.out _) _⟩
            · by_cases h5 : n < y
              · have e5 : errC L (j + 1) = 19 := by rw [HE3.out, if_pos ⟨by omega, .inr h5⟩]
                have hj5 : IntKind.i64.wrap (j : Int) = (j : Int) := by rw [IntKind.wrap_i64]; omega
                have HF := Lib.hid (show valC L = 19 by rw [HBAD.out (by rw [e5]; decide), e5])
                clear e5 HE3 HBAD HNX
                rcases hall with rfl | ⟨g4, g5⟩
                all_goals
                  go_wp2
                  go_quiet (fail)
                  go_wp2
                  go_ret
                  exact ⟨by rw [HF.out]; rfl, below_drewN (bal HB.out _) _⟩
              · have HF := Lib.hid (HNX.out (HE3.out.trans (if_neg (by rintro ⟨-, h | h⟩; exact h4 h; exact h5 h))))
                have hj5 : IntKind.i64.wrap (j : Int) = (j : Int) := by rw [IntKind.wrap_i64]; omega
                have hy0 : (y == 0) = false := beq_eq_false_iff_ne.2 h4
                clear hj1 hj4
                clear HE3 HBAD HNX
                rcases hall with rfl | ⟨g4, g5⟩
                all_goals
                  go_wp2
                  go_quiet (fail)
                  go_wp2
                  go_roundw
                  case rel => exact ⟨j + 1 + 1, by omega, by go_num, HF, Lib.hid (below_drewN (bal HB.out _) _)⟩
                  case measure => simp [intOf]; omega
    · obtain rfl : q = L.length := by omega
      have HF := Lib.hid (valC_ok HN.out)
      go_wp2
      go_ret
      exact ⟨by rw [HF.out]; rfl, HB.out⟩
/-- A closure that answers p of a version, in this world and in all that follow. -/
def TellsV (f : FuncId) (c1 : Value) (p : Vs → Bool) (w : World) : Prop :=
  (∀ args w, (callFunc f args).run Try.prog w = .ok (.enter f args) w) ∧ ∀ w', Below w.heap.size w w' → ∀ x : Vs, x.ok → Calls Try.prog f #[.agg #[.int .i64 x.n, .int .i64 x.r, .int .i64 x.k, x.s], c1] w' fun e w'' => e = .returned (.bool (p x)) ∧ Below w'.heap.size w' w''
/-- The first place of L that p holds of. -/
def firV (p : Vs → Bool) (L : List Vs) : Option Nat := L.findIdx? p
def firI (o : Option Nat) : Int := match o with | some i => i | none => -1
theorem fir_hit {p : Vs → Bool} {L : List Vs} {q : Nat} (hq : q < L.length) (h : ∀ x, x < q → p (L.getD x Vs.z) = false) (hh : p (L.getD q Vs.z) = true) : firV p L = some q := by
  unfold firV
  rw [List.findIdx?_eq_some_iff_getElem]
  refine ⟨hq, by simpa [List.getD, hq] using hh, fun j hj => ?_⟩
  have := h j hj
  simp [List.getD, show j < L.length by omega] at this
  simp [this]
theorem fir_miss {p : Vs → Bool} {L : List Vs} (h : ∀ x, x < L.length → p (L.getD x Vs.z) = false) : firV p L = none := by
  unfold firV
  rw [List.findIdx?_eq_none_iff]
  intro x hx
  obtain ⟨j, hj, rfl⟩ := List.mem_iff_getElem.1 hx
  simpa [List.getD, hj] using h j hj
set_option maxRecDepth 100000 in
set_option maxHeartbeats 2000000 in
theorem idxVs_any (f : FuncId) (c1 : Value) (p : Vs → Bool) (L : List Vs) (v : Value) (w : World) (hv : RdVs L v w) (hL : L.length ≤ 1000000000000) (ht : TellsV f c1 p w) :
    Calls Try.prog 24 #[v, .func (.func f) #[] #[c1]] w fun e w' => e = .returned (.int .i64 (firI (firV p L))) ∧ Below w.heap.size w w' := by
  obtain ⟨a, cap, rfl⟩ := hv.shape
  obtain ⟨he, hf⟩ := ht
  have HF := Lib.hid hf
  have HV := Lib.hid hv
  clear hf hv
  go_enter Try.func24, Try.ntmps24
  go_wp2
  go_loopw [5, 8] (fun _ i wr => ∃ q : Nat, q ≤ L.length ∧ i = .int .i64 (q : Int) ∧ Hid (Below w.heap.size w wr) ∧ Hid (∀ x, x < q → p (L.getD x Vs.z) = false)) (fun _ i _ => L.length - (intOf i).toNat)
  case atStart => exact ⟨0, by omega, rfl, Lib.hid (Below.refl _ _), Lib.hid (fun x hx => by omega)⟩
  case round =>
    obtain ⟨q, hq, rfl, HB, HN⟩ := hrel
    by_cases hlt : q < L.length
    · have hqi : (q : Int) < (L.length : Int) := by omega
      obtain ⟨b, off, rfl, hbl, c0, c1, c2, c3⟩ := (HV.out.below HB.out).at_ hlt
      have HC := Lib.hid (HF.out wr HB.out (L.getD q Vs.z) (HV.out.1.at_ q))
      have HMEM : Hid (L.getD q Vs.z ∈ L) := Lib.hid (by simp [List.getD, hlt])
      obtain ⟨x, hx⟩ : ∃ x, L.getD q Vs.z = x := ⟨_, rfl⟩
      rw [hx] at c0 c1 c2 c3 HC HMEM
      have HX := Lib.hid hx
      have hL1 : (-1 : Int) ≤ (q : Int) ∧ (q : Int) ≤ (L.length : Int) := by omega
      clear hx
      cases hpx : p x with
      | true =>
        have hc := HC.out
        rw [hpx] at hc
        have HC2 := Lib.hid hc
        have HR : Hid (firV p L = some q) := Lib.hid (fir_hit hlt HN.out (by rw [HX.out]; exact hpx))
        clear hc HC
        go_wp2_with ((with_reducible refine HC2.out.mono ?_); rintro e w' ⟨rfl, hb⟩; have HB2 := Lib.hid (bgo HB.out hb); clear hb)
        go_ret
        exact ⟨by rw [HR.out]; rfl, HB2.out⟩
      | false =>
        have hc := HC.out
        rw [hpx] at hc
        have HC2 := Lib.hid hc
        have HN2 : Hid (∀ y, y < q + 1 → p (L.getD y Vs.z) = false) := Lib.hid (fun y hy => by
          rcases Nat.lt_or_ge y q with h | h
          · exact HN.out y h
          · obtain rfl : y = q := by omega
            rw [HX.out, hpx])
        clear hc HC
        go_wp2_with ((with_reducible refine HC2.out.mono ?_); rintro e w' ⟨rfl, hb⟩; have HB2 := Lib.hid (bgo HB.out hb); clear hb)
        go_roundw
        case rel => exact ⟨q + 1, by omega, by go_num, HB2, HN2⟩
        case measure => simp [intOf]; omega
    · obtain rfl : q = L.length := by omega
      have HR := Lib.hid (fir_miss HN.out)
      go_wp2
      go_ret
      exact ⟨by rw [HR.out]; rfl, HB.out⟩
set_option maxRecDepth 100000 in
set_option maxHeartbeats 1000000 in
theorem cfind1_any (c : Int) (x : Vs) (gf : Nat) (w : World) (h1 : w.cell? ⟨gf, 0, none⟩ = some (.int .i64 c)) (hx : x.ok) :
    Calls Try.prog 25 #[.agg #[.int .i64 x.n, .int .i64 x.r, .int .i64 x.k, x.s], .pointer (some ⟨gf, 0, none⟩)] w fun e w' => e = .returned (.bool (hldC x.n x.r c)) ∧ Below w.heap.size w w' := by
  obtain ⟨n, r, k, s⟩ := x
  obtain ⟨-, -, -, sa, sn, sc, hs⟩ := hx
  have hs : s = .slice sa sn sc := hs
  subst hs
  have hlt1 := World.block_lt_of_cell? w _ h1
  simp only at hlt1
  show Calls _ _ #[.agg #[.int .i64 n, .int .i64 r, .int .i64 k, .slice sa sn sc], _] _ fun e w' => e = .returned (.bool (hldC n r c)) ∧ _
  unfold hldC
  by_cases hc1 : n ≤ c
  · by_cases hc2 : c < r
    · go_enter Try.func25, Try.ntmps25
      go_wp2
      go_ret
      exact ⟨ret_bool (by simp [hc1, hc2]), b1 _⟩
    · go_enter Try.func25, Try.ntmps25
      go_wp2
      all_goals
        go_ret
        exact ⟨ret_bool (by rw [Bool.eq_iff_iff]; simp [*] <;> omega), b1 _⟩
  · go_enter Try.func25, Try.ntmps25
    go_wp2
    go_ret
    exact ⟨ret_bool (by rw [Bool.eq_iff_iff]; simp [*] <;> omega), b1 _⟩
theorem enters_cfind1 : ∀ args w, (callFunc 25 args).run Try.prog w = .ok (.enter 25 args) w := Go.Proofs.enters_of Try.func25 (by kernel_rfl) rfl
theorem fnd_fir (c : Int) : ∀ (L : List Vs) (i : Nat), fndF c L i = (L.findIdx? (fun x => hldC x.n x.r c)).map (· + i)
  | [], _ => rfl
  | x :: L, i => by
    unfold fndF
    rw [List.findIdx?_cons]
    by_cases h : hldC x.n x.r c = true
    · simp [h]
    · have h' : hldC x.n x.r c = false := by simpa using h
      simp only [h', Bool.false_eq_true, if_false, fnd_fir c L (i + 1), Option.map_map]
      congr 1
      funext y
      simp only [Function.comp]
      omega
theorem fndC_fir (c : Int) (L : List Vs) : firV (fun x => hldC x.n x.r c) L = fndC L c := by
  unfold fndC firV
  rw [fnd_fir]
  cases L.findIdx? (fun x => hldC x.n x.r c) <;> rfl
theorem firI_bd (L : List Vs) (p : Vs → Bool) : -1 ≤ firI (firV p L) ∧ firI (firV p L) ≤ L.length := by
  cases h : firV p L with
  | none => exact ⟨Int.le_refl _, by show (-1 : Int) ≤ _; omega⟩
  | some q =>
    have := (List.findIdx?_eq_some_iff_getElem.1 h).1
    exact ⟨by show (-1 : Int) ≤ (q : Int); omega, by show (q : Int) ≤ _; omega⟩
set_option maxRecDepth 100000 in
set_option maxHeartbeats 1000000 in
theorem pfindc_any (L : List Vs) (v : Value) (c : Int) (w : World) (hv : RdVs L v w) (hL : L.length ≤ 1000000000000) :
    Calls Try.prog 9 #[v, .int .i64 c] w fun e w' => e = .returned (.tuple #[.int .i64 (fndI (fndC L c)), .bool (fndC L c).isSome]) ∧ Below w.heap.size w w' := by
  have hv2 := hv.below (b1 (.cells #[.int .i64 c] 3))
  have hts : TellsV 25 (.pointer (some ⟨w.heap.size, 0, none⟩)) (fun x => hldC x.n x.r c) (w.alloc (.cells #[.int .i64 c] 3)) :=
    ⟨enters_cfind1, fun w' hb x hx => cfind1_any c x w.heap.size w' (((bcell hb).1 w.heap.size 0 (by simp)).trans (by go_simp)) hx⟩
  have hid := idxVs_any _ _ _ L v _ hv2 hL hts
  rw [fndC_fir] at hid
  have HC := Lib.hid hid
  clear hid
  have HL := Lib.hid (show ∀ q, fndC L c = some q → q < L.length from fun q h => by
    rw [← fndC_fir] at h
    exact (List.findIdx?_eq_some_iff_getElem.1 h).1)
  obtain ⟨a, cap, rfl⟩ := hv.shape
  generalize fndC L c = o at *
  clear hv hv2 hts
  cases o with
  | none =>
    go_enter Try.func9, Try.ntmps9
    go_wp2_with (go_at_call 24; refine HC.out.mono ?_; rintro e w1 ⟨rfl, hb⟩; have HB := Lib.hid (bgo (b1 _) hb); clear hb; simp only [firI])
    go_ret2
    exact ⟨rfl, HB.out⟩
  | some q =>
    have hq := HL.out q rfl
    have hm : max (q : Int) 0 = (q : Int) := by omega
    go_enter Try.func9, Try.ntmps9
    go_wp2_with (go_at_call 24; refine HC.out.mono ?_; rintro e w1 ⟨rfl, hb⟩; have HB := Lib.hid (bgo (b1 _) hb); clear hb; simp only [firI])
    go_ret2
    exact ⟨rfl, HB.out⟩
end Go.Proofs.Ytakickggpfbafaa
