/- The reference's ValidatePins, Covers, Total, SamePins. -/
import Derived.Test.YtledpfdflcmlcaaPnL
import Derived.Test.YtledpfdflcmlcaaRefSat
import Derived.Test.YtledpfdflcmlcaaStepApp
import Derived.RegionTactic
import Derived.Deep.QuietTactic
import Derived.BigQuiet
import Derived.StillTailTactics
namespace Go.Proofs.Ytledpfdflcmlcaa
open Go.RowKit
set_option linter.unusedVariables false
set_option linter.unusedSimpArgs false
/-- A pin of a row that can be read. -/
theorem RdPn.at_ {L : List Pn} {n cap : Nat} {a : Option Addr} {w : World} (h : RdPn L (.slice a n cap) w) {j : Nat} (hj : j < L.length) :
    ∃ b off, a = some ⟨b, off, none⟩ ∧ b < w.heap.size ∧ w.cell? ⟨b, off + j * 2, none⟩ = some (.int .i64 (L.getD j Pn.z).m) ∧ w.cell? ⟨b, off + j * 2 + 1, none⟩ = some (.int .i64 (L.getD j Pn.z).n) := by
  obtain ⟨-, a', cap', he, -, -, hcell⟩ := h
  simp only [Value.slice.injEq] at he
  obtain ⟨rfl, -, rfl⟩ := he
  obtain ⟨b, off, rfl, hbl, hc⟩ := hcell (by omega)
  obtain ⟨c0, c1⟩ := hc j hj
  exact ⟨b, off, rfl, hbl, c0, c1⟩
set_option maxRecDepth 100000 in
set_option maxHeartbeats 1000000 in
theorem rvalp_any (L : List Pn) (v : Value) (w : World) (hv : RdPn L v w) (hL : L.length ≤ 1000000000000) :
    Calls Try.prog 13 #[v] w fun e w' => e = .returned (.int .i64 (valN L)) ∧ Below w.heap.size w w' := by
  obtain ⟨a, cap, rfl⟩ := hv.shape
  have HV := Lib.hid hv
  clear hv
  go_enter Try.func13, Try.ntmps13
  go_wp2
  go_loopw [3] (fun i wr => ∃ q : Nat, q ≤ L.length ∧ i = .int .i64 (q : Int) ∧ Hid (∀ x, x < q → errAt L x = 0) ∧ Hid (Below w.heap.size w wr)) (fun i _ => L.length - (intOf i).toNat)
  case atStart => exact ⟨0, by omega, rfl, Lib.hid (fun x hx => by omega), Lib.hid (Below.refl _ _)⟩
  case round =>
    obtain ⟨q, hq, rfl, HN, HB⟩ := hrel
    by_cases hlt : q < L.length
    · have hqi : (q : Int) < (L.length : Int) := by omega
      obtain ⟨b, off, rfl, hbl, c0, c1⟩ := (HV.out.below HB.out).at_ hlt
      have hok := (HV.out.1.at_ q)
      have HBAD := Lib.hid (fun (he : errAt L q ≠ 0) => valN_bad HN.out hlt he)
      have HE : Hid (errAt L q = if (L.getD q Pn.z).m < 0 ∨ (L.getD q Pn.z).n < 1 ∨ 1024 < (L.getD q Pn.z).n then 5 else if 0 < q ∧ (L.getD q Pn.z).m ≤ (L.getD (q - 1) Pn.z).m then 19 else 0) := Lib.hid rfl
      obtain ⟨m, hm⟩ : ∃ m, (L.getD q Pn.z).m = m := ⟨_, rfl⟩
      obtain ⟨n, hn⟩ : ∃ n, (L.getD q Pn.z).n = n := ⟨_, rfl⟩
      have hb1 := hok.1
      have hb2 := hok.2
      rw [hm] at c0 HE hb1
      rw [hn] at c1 HE hb2
      clear hok hm hn
      by_cases h1 : m < 0
      · have e5 : errAt L q = 5 := by rw [HE.out, if_pos (.inl h1)]
        have HF := Lib.hid (show valN L = 5 by rw [HBAD.out (by rw [e5]; decide), e5])
        clear e5 HE HBAD
        go_wp2
        go_ret
        exact ⟨by rw [HF.out]; rfl, HB.out⟩
      · by_cases h2 : n < 1
        · have e5 : errAt L q = 5 := by rw [HE.out, if_pos (.inr (.inl h2))]
          have HF := Lib.hid (show valN L = 5 by rw [HBAD.out (by rw [e5]; decide), e5])
          clear e5 HE HBAD
          go_wp2
          go_ret
          exact ⟨by rw [HF.out]; rfl, HB.out⟩
        · by_cases h3 : 1024 < n
          · have e5 : errAt L q = 5 := by rw [HE.out, if_pos (.inr (.inr h3))]
            have HF := Lib.hid (show valN L = 5 by rw [HBAD.out (by rw [e5]; decide), e5])
            clear e5 HE HBAD
            go_wp2
            go_ret
            exact ⟨by rw [HF.out]; rfl, HB.out⟩
          · cases q with
            | zero =>
              have HN2 : Hid (∀ x, x < 0 + 1 → errAt L x = 0) := Lib.hid (fun x hx => by
                obtain rfl : x = 0 := by omega
                rw [HE.out, if_neg (by omega), if_neg (by omega)])
              clear HE HBAD
              simp only [Nat.zero_mul, Nat.add_zero] at c0 c1
              go_wp2
              go_quiet (fail)
              go_wp2
              go_roundw
              case rel => exact ⟨1, by omega, by go_num, HN2, Lib.hid (below_drewN HB.out _)⟩
              case measure => simp [intOf]; omega
            | succ j =>
              obtain ⟨b', off', hbo, -, d0, -⟩ := (HV.out.below HB.out).at_ (j := j) (by omega)
              simp only [Option.some.injEq, Addr.mk.injEq, and_true] at hbo
              obtain ⟨rfl, rfl⟩ := hbo
              rw [show j + 1 - 1 = j from rfl] at HE
              obtain ⟨y, hy⟩ : ∃ y, (L.getD j Pn.z).m = y := ⟨_, rfl⟩
              rw [hy] at d0 HE
              clear hy
              have hj1 : IntKind.i64.wrap ((j : Int) + 1 - 1) = (j : Int) := by rw [IntKind.wrap_i64]; omega
              have hj2 : (0 : Int) < (j : Int) + 1 := by omega
              have hj3 : (j : Int) < (L.length : Int) := by omega
              have hj4 : wrap64 ((j : Int) + 1 - 1) = (j : Int) := by unfold wrap64; omega
              by_cases h4 : m ≤ y
              · have e5 : errAt L (j + 1) = 19 := by rw [HE.out, if_neg (by omega), if_pos ⟨by omega, h4⟩]
                have HF := Lib.hid (show valN L = 19 by rw [HBAD.out (by rw [e5]; decide), e5])
                clear e5 HE HBAD
                go_wp2
                go_quiet (fail)
                go_wp2
                go_ret
                exact ⟨by rw [HF.out]; rfl, below_drewN HB.out _⟩
              · have HN2 : Hid (∀ x, x < j + 1 + 1 → errAt L x = 0) := Lib.hid (fun x hx => by
                  rcases Nat.lt_or_ge x (j + 1) with h | h
                  · exact HN.out x h
                  · obtain rfl : x = j + 1 := by omega
                    rw [HE.out, if_neg (by omega), if_neg (fun h => h4 h.2)])
                clear HE HBAD
                go_wp2
                go_quiet (fail)
                go_wp2
                go_roundw
                case rel => exact ⟨j + 1 + 1, by omega, by go_num, HN2, Lib.hid (below_drewN HB.out _)⟩
                case measure => simp [intOf]; omega
    · obtain rfl : q = L.length := by omega
      have HF := Lib.hid (valN_ok HN.out)
      go_wp2
      go_ret
      exact ⟨by rw [HF.out]; rfl, HB.out⟩
set_option maxRecDepth 100000 in
set_option maxHeartbeats 1000000 in
theorem rcovp_any (L : List Pn) (v : Value) (f t : Int) (w : World) (hv : RdPn L v w) (hL : L.length ≤ 1000000000000) :
    Calls Try.prog 19 #[v, .int .i64 f, .int .i64 t] w fun e w' => e = .returned (.bool (covP f t L)) ∧ w = w' := by
  obtain ⟨a, cap, rfl⟩ := hv.shape
  have HV := Lib.hid hv
  clear hv
  go_enter Try.func19, Try.ntmps19
  go_wp2
  go_loopw [7] (fun i wr => ∃ q : Nat, q ≤ L.length ∧ i = .int .i64 (q : Int) ∧ Hid (∀ x, x < q → conP f t (L.getD x Pn.z).m = false) ∧ wr = w) (fun i _ => L.length - (intOf i).toNat)
  case atStart => exact ⟨0, by omega, rfl, Lib.hid (fun x hx => by omega), rfl⟩
  case round =>
    obtain ⟨q, hq, rfl, HN, rfl⟩ := hrel
    by_cases hlt : q < L.length
    · have hqi : (q : Int) < (L.length : Int) := by omega
      obtain ⟨b, off, rfl, hbl, c0, c1⟩ := HV.out.at_ hlt
      have HIT : Hid (conP f t (L.getD q Pn.z).m = true → covP f t L = true) := Lib.hid (fun h => List.any_eq_true.2 ⟨L.getD q Pn.z, by simp [List.getD, hlt], h⟩)
      have HNX : Hid (conP f t (L.getD q Pn.z).m = false → ∀ x, x < q + 1 → conP f t (L.getD x Pn.z).m = false) := Lib.hid (fun h x hx => by
        rcases Nat.lt_or_ge x q with h' | h'
        · exact HN.out x h'
        · obtain rfl : x = q := by omega
          exact h)
      have hcn : conP f t (L.getD q Pn.z).m = (decide (f ≤ (L.getD q Pn.z).m) && (decide ((L.getD q Pn.z).m < t) || decide (t = 0))) := rfl
      generalize (L.getD q Pn.z).m = m at *
      generalize conP f t m = r at *
      by_cases h1 : f ≤ m
      · by_cases h2 : m < t
        · have hr : r = true := by rw [hcn]; simp [h1, h2]
          have HF := Lib.hid (HIT.out hr)
          clear hr hcn
          go_wp2
          go_ret
          exact ⟨by rw [HF.out]; rfl, rfl⟩
        · by_cases h3 : t = 0
          · have hr : r = true := by rw [hcn]; simp [h1, h3]
            have HF := Lib.hid (HIT.out hr)
            clear hr hcn
            subst h3
            go_wp2
            go_ret
            exact ⟨by rw [HF.out]; rfl, rfl⟩
          · have hr : r = false := by rw [hcn]; simp [h2, h3]
            have HF := Lib.hid (HNX.out hr)
            clear hr hcn
            go_wp2
            go_roundw
            case rel => exact ⟨q + 1, by omega, by go_num, HF, by first | rfl | trivial⟩
            case measure => simp [intOf]; omega
      · have hr : r = false := by rw [hcn]; simp [h1]
        have HF := Lib.hid (HNX.out hr)
        clear hr hcn
        go_wp2
        go_roundw
        case rel => exact ⟨q + 1, by omega, by go_num, HF, by first | rfl | trivial⟩
        case measure => simp [intOf]; omega
    · obtain rfl : q = L.length := by omega
      have HF := Lib.hid (show covP f t L = false by
        unfold covP
        rw [List.any_eq_false]
        intro p hp
        obtain ⟨x, hx, rfl⟩ := List.mem_iff_getElem.1 hp
        have := HN.out x hx
        simpa [List.getD, hx] using this)
      go_wp2
      go_ret
      exact ⟨by rw [HF.out]; rfl, rfl⟩
theorem totF_snoc (a : Int) : ∀ (L : List Pn) (p : Pn), totF a (L ++ [p]) = satN (totF a L + nat0 p.n) 1099511627776
  | [], p => rfl
  | q :: L, p => by
    show totF _ (L ++ [p]) = _
    rw [totF_snoc _ L p]
    rfl
theorem totF_bd : ∀ (L : List Pn) {a : Int}, 0 ≤ a → a ≤ 1099511627776 → 0 ≤ totF a L ∧ totF a L ≤ 1099511627776
  | [], a, h0, h1 => ⟨h0, h1⟩
  | p :: L, a, h0, h1 => by
    have : 0 ≤ nat0 p.n := by unfold nat0; omega
    exact totF_bd L (by unfold satN; split <;> omega) (by unfold satN; split <;> omega)
theorem pn_take {L : List Pn} {j : Nat} (h : j < L.length) : L.take (j + 1) = L.take j ++ [L.getD j Pn.z] := by
  rw [List.take_succ_eq_append_getElem h]
  simp [List.getD, h]
set_option maxRecDepth 100000 in
set_option maxHeartbeats 1000000 in
theorem rtotp_any (L : List Pn) (v : Value) (w : World) (hv : RdPn L v w) (hL : L.length ≤ 1000000000000) :
    Calls Try.prog 17 #[v] w fun e w' => e = .returned (.int .i64 (totF 0 L)) ∧ w = w' := by
  obtain ⟨a, cap, rfl⟩ := hv.shape
  have HV := Lib.hid hv
  clear hv
  go_enter Try.func17, Try.ntmps17
  go_wp2
  go_loopw [3, 4] (fun s i wr => ∃ q : Nat, q ≤ L.length ∧ s = .int .i64 (totF 0 (L.take q)) ∧ i = .int .i64 (q : Int) ∧ wr = w) (fun _ i _ => L.length - (intOf i).toNat)
  case atStart => exact ⟨0, by omega, rfl, rfl, rfl⟩
  case round =>
    obtain ⟨q, hq, rfl, rfl, rfl⟩ := hrel
    by_cases hlt : q < L.length
    · have hqi : (q : Int) < (L.length : Int) := by omega
      obtain ⟨b, off, rfl, hbl, c0, c1⟩ := HV.out.at_ hlt
      have hok := (HV.out.1.at_ q)
      have HT := Lib.hid (show totF 0 (L.take (q + 1)) = satN (nat0 (totF 0 (L.take q)) + nat0 (L.getD q Pn.z).n) (nat0 1099511627776) by
        rw [pn_take hlt, totF_snoc, nat0_of _ (totF_bd _ (by decide) (by decide)).1]
        rfl)
      have hbd := totF_bd (L.take q) (a := 0) (by decide) (by decide)
      have had := fun w => ref_add_any (totF 0 (L.take q)) (L.getD q Pn.z).n 1099511627776 w (by omega) (by omega) hok.2.1 hok.2.2 (by decide) (by decide)
      rw [← HT.out] at had
      generalize totF 0 (L.take q) = s at *
      generalize (L.getD q Pn.z).n = n at *
      generalize (L.getD q Pn.z).m = m at *
      obtain ⟨s2, hs2⟩ : ∃ s2, totF 0 (L.take (q + 1)) = s2 := ⟨_, rfl⟩
      rw [hs2] at had
      have HS2 := Lib.hid hs2
      clear hs2 HT hok
      go_wp2_with (go_at_call 24; refine (had _).mono ?_; rintro e w' ⟨rfl, rfl⟩)
      go_roundw
      case rel => exact ⟨q + 1, by omega, by rw [HS2.out], by go_num, by first | rfl | trivial⟩
      case measure => simp [intOf]; omega
    · obtain rfl : q = L.length := by omega
      go_wp2
      go_ret
      exact ⟨by simp, rfl⟩
set_option maxRecDepth 100000 in
set_option maxHeartbeats 1000000 in
theorem rsamep_any (L : List Pn) (v u : Value) (w : World) (hv : RdPn L v w) (hu : RdPn L u w) (hL : L.length ≤ 1000000000000) :
    Calls Try.prog 14 #[v, u] w fun e w' => e = .returned (.bool true) ∧ Below w.heap.size w w' := by
  obtain ⟨a, cap, rfl⟩ := hv.shape
  obtain ⟨a2, cap2, rfl⟩ := hu.shape
  have HV := Lib.hid hv
  have HU := Lib.hid hu
  clear hv hu
  go_enter Try.func14, Try.ntmps14
  go_wp2
  go_loopw [5] (fun i wr => ∃ q : Nat, q ≤ L.length ∧ i = .int .i64 (q : Int) ∧ Hid (Below w.heap.size w wr)) (fun i _ => L.length - (intOf i).toNat)
  case atStart => exact ⟨0, by omega, rfl, Lib.hid (Below.refl _ _)⟩
  case round =>
    obtain ⟨q, hq, rfl, HB⟩ := hrel
    by_cases hlt : q < L.length
    · have hqi : (q : Int) < (L.length : Int) := by omega
      obtain ⟨b, off, rfl, hbl, c0, c1⟩ := (HV.out.below HB.out).at_ hlt
      obtain ⟨b2, off2, rfl, hbl2, d0, d1⟩ := (HU.out.below HB.out).at_ hlt
      generalize L.getD q Pn.z = p at *
      go_wp2
      go_region
      all_goals
        go_wp2
        go_roundw
        case rel => exact ⟨q + 1, by omega, by go_num, Lib.hid (by first | exact HB.out | exact below_drew HB.out)⟩
        case measure => simp [intOf]; omega
    · obtain rfl : q = L.length := by omega
      go_wp2
      go_ret
      exact ⟨rfl, HB.out⟩
end Go.Proofs.Ytledpfdflcmlcaa
