/- The program's Validate, Total and Covers of pins. -/
import Derived.Test.YtledpfdflcmlcaaPnB
import Derived.Test.YtledpfdflcmlcaaPnF
namespace Go.Proofs.Ytledpfdflcmlcaa
open Go.RowKit
set_option linter.unusedVariables false
set_option linter.unusedSimpArgs false
set_option maxRecDepth 100000 in
set_option maxHeartbeats 1000000 in
theorem pvalp_any (L : List Pn) (v : Value) (w : World) (hv : RdPn L v w) (hL : L.length ≤ 1000000000000) :
    Calls Try.prog 12 #[v] w fun e w' => e = .returned (.int .i64 (valN L)) ∧ Below w.heap.size w w' := by
  obtain ⟨a, cap, rfl⟩ := hv.shape
  have HV := Lib.hid hv
  clear hv
  go_enter Try.func12, Try.ntmps12
  go_wp2
  go_loopw [3, 4, 7] (fun _ _ i wr => ∃ q : Nat, q ≤ L.length ∧ i = .int .i64 (q : Int) ∧ Hid (∀ x, x < q → errAt L x = 0) ∧ Hid (Below w.heap.size w wr)) (fun _ _ i _ => L.length - (intOf i).toNat)
  case atStart => exact ⟨0, by omega, rfl, Lib.hid (fun x hx => by omega), Lib.hid (Below.refl _ _)⟩
  case round =>
    obtain ⟨q, hq, rfl, HN, HB⟩ := hrel
    by_cases hlt : q < L.length
    · have hqi : (q : Int) < (L.length : Int) := by omega
      obtain ⟨b, off, rfl, hbl, c0, c1⟩ := (HV.out.below HB.out).at_ hlt
      have hok := (HV.out.1.at_ q)
      have HBAD := Lib.hid (fun (he : errAt L q ≠ 0) => valN_bad HN.out hlt he)
      have HE : Hid (errAt L q = if (L.getD q Pn.z).m < 0 ∨ (L.getD q Pn.z).n < 1 ∨ 1024 < (L.getD q Pn.z).n then 5 else if 0 < q ∧ (L.getD q Pn.z).m ≤ (L.getD (q - 1) Pn.z).m then 19 else 0) := Lib.hid rfl
      obtain ⟨m, hm⟩ : ∃ m, (L.getD q Pn.z).m = m := ⟨_, rfl⟩
      obtain ⟨n, hn⟩ : ∃ n, (L.getD q Pn.z).n = n := ⟨_, rfl⟩
      have hb1 := hok.1
      have hb2 := hok.2
      rw [hm] at c0 HE hb1
      rw [hn] at c1 HE hb2
      clear hok hm hn
      by_cases h1 : m < 0
      · have e5 : errAt L q = 5 := by rw [HE.out, if_pos (.inl h1)]
        have HF := Lib.hid (show valN L = 5 by rw [HBAD.out (by rw [e5]; decide), e5])
        clear e5 HE HBAD
        go_wp2
        go_ret
        exact ⟨by rw [HF.out]; rfl, bal HB.out _⟩
      · by_cases h2 : n < 1
        · have e5 : errAt L q = 5 := by rw [HE.out, if_pos (.inr (.inl h2))]
          have HF := Lib.hid (show valN L = 5 by rw [HBAD.out (by rw [e5]; decide), e5])
          clear e5 HE HBAD
          go_wp2
          go_ret
          exact ⟨by rw [HF.out]; rfl, bal HB.out _⟩
        · by_cases h3 : 1024 < n
          · have e5 : errAt L q = 5 := by rw [HE.out, if_pos (.inr (.inr h3))]
            have HF := Lib.hid (show valN L = 5 by rw [HBAD.out (by rw [e5]; decide), e5])
            clear e5 HE HBAD
            go_wp2
            go_ret
            exact ⟨by rw [HF.out]; rfl, bal HB.out _⟩
          · cases q with
            | zero =>
              have HN2 : Hid (∀ x, x < 0 + 1 → errAt L x = 0) := Lib.hid (fun x hx => by
                obtain rfl : x = 0 := by omega
                rw [HE.out, if_neg (by omega), if_neg (by omega)])
              clear HE HBAD
              simp only [Nat.zero_mul, Nat.add_zero] at c0 c1
              go_wp2
              go_quiet (fail)
              go_wp2
              go_roundw
              case rel => exact ⟨1, by omega, by go_num, HN2, Lib.hid (below_drewN (bal HB.out _) _)⟩
              case measure => simp [intOf]; omega
            | succ j =>
              obtain ⟨b', off', hbo, -, d0, -⟩ := (HV.out.below HB.out).at_ (j := j) (by omega)
              simp only [Option.some.injEq, Addr.mk.injEq, and_true] at hbo
              obtain ⟨rfl, rfl⟩ := hbo
              rw [show j + 1 - 1 = j from rfl] at HE
              obtain ⟨y, hy⟩ : ∃ y, (L.getD j Pn.z).m = y := ⟨_, rfl⟩
              rw [hy] at d0 HE
              clear hy
              have hj1 : IntKind.i64.wrap ((j : Int) + 1 - 1) = (j : Int) := by rw [IntKind.wrap_i64]; omega
              have hj2 : (0 : Int) < (j : Int) + 1 := by omega
              have hj3 : (j : Int) < (L.length : Int) := by omega
              have hj4 : wrap64 ((j : Int) + 1 - 1) = (j : Int) := by unfold wrap64; omega
              by_cases h4 : m ≤ y
              · have e5 : errAt L (j + 1) = 19 := by rw [HE.out, if_neg (by omega), if_pos ⟨by omega, h4⟩]
                have HF := Lib.hid (show valN L = 19 by rw [HBAD.out (by rw [e5]; decide), e5])
                clear e5 HE HBAD
                go_wp2
                go_quiet (fail)
                go_wp2
                go_ret
                exact ⟨by rw [HF.out]; rfl, below_drewN (bal HB.out _) _⟩
              · have HN2 : Hid (∀ x, x < j + 1 + 1 → errAt L x = 0) := Lib.hid (fun x hx => by
                  rcases Nat.lt_or_ge x (j + 1) with h | h
                  · exact HN.out x h
                  · obtain rfl : x = j + 1 := by omega
                    rw [HE.out, if_neg (by omega), if_neg (fun h => h4 h.2)])
                clear HE HBAD
                go_wp2
                go_quiet (fail)
                go_wp2
                go_roundw
                case rel => exact ⟨j + 1 + 1, by omega, by go_num, HN2, Lib.hid (below_drewN (bal HB.out _) _)⟩
                case measure => simp [intOf]; omega
    · obtain rfl : q = L.length := by omega
      have HF := Lib.hid (valN_ok HN.out)
      go_wp2
      go_ret
      exact ⟨by rw [HF.out]; rfl, HB.out⟩
theorem totF_step {L : List Pn} {q : Nat} (hlt : q < L.length) (h63 : (L.getD q Pn.z).n ≤ 9223372036854775807) : totF 0 (L.take (q + 1)) = min (totF 0 (L.take q) + min (max (L.getD q Pn.z).n 0) 1099511627776) 1099511627776 := by
  have hb := totF_bd (L.take q) (a := 0) (by decide) (by decide)
  rw [pn_take hlt, totF_snoc]
  unfold satN nat0
  split <;> omega
set_option maxRecDepth 100000 in
set_option maxHeartbeats 1000000 in
theorem ptotp_any (L : List Pn) (v : Value) (w : World) (hv : RdPn L v w) (hL : L.length ≤ 1000000000000) :
    Calls Try.prog 16 #[v] w fun e w' => e = .returned (.int .i64 (totF 0 L)) ∧ Below w.heap.size w w' := by
  obtain ⟨a, cap, rfl⟩ := hv.shape
  have HV := Lib.hid hv
  clear hv
  go_enter Try.func16, Try.ntmps16
  go_wp2
  go_loopw [3, 5, 8] (fun s _ i wr => ∃ q : Nat, q ≤ L.length ∧ s = .int .i64 (totF 0 (L.take q)) ∧ i = .int .i64 (q : Int) ∧ Hid (Below w.heap.size w wr)) (fun _ _ i _ => L.length - (intOf i).toNat)
  case atStart => exact ⟨0, by omega, rfl, rfl, Lib.hid (Below.refl _ _)⟩
  case round =>
    obtain ⟨q, hq, rfl, rfl, HB⟩ := hrel
    by_cases hlt : q < L.length
    · have hqi : (q : Int) < (L.length : Int) := by omega
      obtain ⟨b, off, rfl, hbl, c0, c1⟩ := (HV.out.below HB.out).at_ hlt
      have hok := (HV.out.1.at_ q).2
      have HT := Lib.hid (totF_step hlt hok.2)
      have hbd := totF_bd (L.take q) (a := 0) (by decide) (by decide)
      generalize totF 0 (L.take q) = s at *
      generalize (L.getD q Pn.z).n = n at *
      generalize (L.getD q Pn.z).m = m at *
      have hs0 := hbd.1
      have hs1 := hbd.2
      clear hbd hok
      go_wp2
      go_roundw
      case rel => exact ⟨q + 1, by omega, by rw [HT.out], by go_num, Lib.hid (bal HB.out _)⟩
      case measure => simp [intOf]; omega
    · obtain rfl : q = L.length := by omega
      go_wp2
      go_ret
      exact ⟨by simp, HB.out⟩
/-- A closure that answers p of a pin, in this world and in all that follow. -/
def TellsP (f : FuncId) (c1 c2 : Value) (p : Pn → Bool) (w : World) : Prop :=
  (∀ args w, (callFunc f args).run Try.prog w = .ok (.enter f args) w) ∧ ∀ w', Below w.heap.size w w' → ∀ x : Pn, x.ok → Calls Try.prog f #[.agg #[.int .i64 x.m, .int .i64 x.n], c1, c2] w' fun e w'' => e = .returned (.bool (p x)) ∧ Below w'.heap.size w' w''
/-- What IndexFunc answers. -/
def IdxPost (L : List Pn) (p : Pn → Bool) (w : World) (e : Ending) (w' : World) : Prop := ∃ k : Int, e = .returned (.int .i64 k) ∧ (-1 ≤ k ∧ k ≤ L.length) ∧ (0 ≤ k ↔ L.any p = true) ∧ Below w.heap.size w w'
set_option maxRecDepth 100000 in
set_option maxHeartbeats 2000000 in
theorem idxPn_any (f : FuncId) (c1 c2 : Value) (p : Pn → Bool) (L : List Pn) (v : Value) (w : World) (hv : RdPn L v w) (hL : L.length ≤ 1000000000000) (ht : TellsP f c1 c2 p w) :
    Calls Try.prog 32 #[v, .func (.func f) #[] #[c1, c2]] w fun e w' => IdxPost L p w e w' := by
  obtain ⟨a, cap, rfl⟩ := hv.shape
  obtain ⟨he, hf⟩ := ht
  have HF := Lib.hid hf
  have HV := Lib.hid hv
  clear hf hv
  go_enter Try.func32, Try.ntmps32
  go_wp2
  go_loopw [5, 8] (fun _ i wr => ∃ q : Nat, q ≤ L.length ∧ i = .int .i64 (q : Int) ∧ Hid (Below w.heap.size w wr) ∧ Hid (∀ x, x < q → p (L.getD x Pn.z) = false)) (fun _ i _ => L.length - (intOf i).toNat)
  case atStart => exact ⟨0, by omega, rfl, Lib.hid (Below.refl _ _), Lib.hid (fun x hx => by omega)⟩
  case round =>
    obtain ⟨q, hq, rfl, HB, HN⟩ := hrel
    by_cases hlt : q < L.length
    · have hqi : (q : Int) < (L.length : Int) := by omega
      obtain ⟨b, off, rfl, hbl, c0, c1⟩ := (HV.out.below HB.out).at_ hlt
      have HC := Lib.hid (HF.out wr HB.out (L.getD q Pn.z) (HV.out.1.at_ q))
      have HMEM : Hid (L.getD q Pn.z ∈ L) := Lib.hid (by simp [List.getD, hlt])
      obtain ⟨x, hx⟩ : ∃ x, L.getD q Pn.z = x := ⟨_, rfl⟩
      rw [hx] at c0 c1 HC HMEM
      have HX := Lib.hid hx
      have hL1 : (-1 : Int) ≤ (q : Int) ∧ (q : Int) ≤ (L.length : Int) := by omega
      clear hx
      cases hpx : p x with
      | true =>
        have hc := HC.out
        rw [hpx] at hc
        have HC2 := Lib.hid hc
        have HR : Hid (L.any p = true) := Lib.hid (List.any_eq_true.2 ⟨x, HMEM.out, hpx⟩)
        clear hc HC
        go_wp2_with ((with_reducible refine HC2.out.mono ?_); rintro e w' ⟨rfl, hb⟩; have HB2 := Lib.hid (bgo HB.out hb); clear hb)
        go_ret
        exact ⟨q, rfl, hL1, ⟨fun _ => HR.out, fun _ => by omega⟩, HB2.out⟩
      | false =>
        have hc := HC.out
        rw [hpx] at hc
        have HC2 := Lib.hid hc
        have HN2 : Hid (∀ y, y < q + 1 → p (L.getD y Pn.z) = false) := Lib.hid (fun y hy => by
          rcases Nat.lt_or_ge y q with h | h
          · exact HN.out y h
          · obtain rfl : y = q := by omega
            rw [HX.out, hpx])
        clear hc HC
        go_wp2_with ((with_reducible refine HC2.out.mono ?_); rintro e w' ⟨rfl, hb⟩; have HB2 := Lib.hid (bgo HB.out hb); clear hb)
        go_roundw
        case rel => exact ⟨q + 1, by omega, by go_num, HB2, HN2⟩
        case measure => simp [intOf]; omega
    · obtain rfl : q = L.length := by omega
      have HR : Hid (L.any p = false) := Lib.hid (by
        rw [List.any_eq_false]
        intro x hx
        obtain ⟨j, hj, rfl⟩ := List.mem_iff_getElem.1 hx
        have := HN.out j hj
        simpa [List.getD, hj] using this)
      go_wp2
      go_ret
      exact ⟨-1, rfl, ⟨by omega, by omega⟩, ⟨fun h => absurd h (by decide), fun h => by rw [HR.out] at h; cases h⟩, HB.out⟩
set_option maxRecDepth 100000 in
theorem hasPn_any (f : FuncId) (c1 c2 : Value) (p : Pn → Bool) (L : List Pn) (v : Value) (w : World) (hv : RdPn L v w) (hL : L.length ≤ 1000000000000) (ht : TellsP f c1 c2 p w) :
    Calls Try.prog 25 #[v, .func (.func f) #[] #[c1, c2]] w fun e w' => e = .returned (.bool (L.any p)) ∧ Below w.heap.size w w' := by
  have hi := idxPn_any f c1 c2 p L v w hv hL ht
  have hcs : ∀ r : Bool, L.any p = r → r = L.any p := fun r h => h.symm
  obtain ⟨r, hr⟩ : ∃ r, L.any p = r := ⟨_, rfl⟩
  obtain ⟨a, cap, rfl⟩ := hv.shape
  have HR := Lib.hid hr
  rw [hr]
  clear hr hcs hv
  go_enter Try.func25, Try.ntmps25
  go_wp2_with (go_at_call 32; refine hi.mono ?_; rintro e w1 ⟨k, rfl, hk, h2, hb⟩; have HK := Lib.hid h2; have HB := Lib.hid hb; clear h2 hb)
  go_ret
  refine ⟨ret_bool ?_, HB.out⟩
  rw [Bool.eq_iff_iff, ← HR.out, ← HK.out]
  simp
set_option maxRecDepth 100000 in
set_option maxHeartbeats 1000000 in
theorem covers1_any (f t : Int) (x : Pn) (gf gt : Nat) (w : World) (h1 : w.cell? ⟨gf, 0, none⟩ = some (.int .i64 f)) (h2 : w.cell? ⟨gt, 0, none⟩ = some (.int .i64 t)) (hx : x.ok) :
    Calls Try.prog 26 #[.agg #[.int .i64 x.m, .int .i64 x.n], .pointer (some ⟨gf, 0, none⟩), .pointer (some ⟨gt, 0, none⟩)] w fun e w' => e = .returned (.bool (conP f t x.m)) ∧ Below w.heap.size w w' := by
  obtain ⟨m, n⟩ := x
  have hlt1 := World.block_lt_of_cell? w _ h1
  have hlt2 := World.block_lt_of_cell? w _ h2
  simp only at hlt1 hlt2
  show Calls _ _ _ _ fun e w' => e = .returned (.bool (conP f t m)) ∧ _
  unfold conP
  by_cases hc1 : f ≤ m
  · by_cases hc2 : m < t
    · go_enter Try.func26, Try.ntmps26
      go_wp2
      go_ret
      exact ⟨ret_bool (by simp [hc1, hc2]), b1 _⟩
    · go_enter Try.func26, Try.ntmps26
      go_wp2
      all_goals
        go_ret
        exact ⟨ret_bool (by rw [Bool.eq_iff_iff]; simp [*] <;> omega), b1 _⟩
  · go_enter Try.func26, Try.ntmps26
    go_wp2
    go_ret
    exact ⟨ret_bool (by rw [Bool.eq_iff_iff]; simp [*] <;> omega), b1 _⟩
theorem enters_covers1 : ∀ args w, (callFunc 26 args).run Try.prog w = .ok (.enter 26 args) w := Go.Proofs.enters_of Try.func26 (by kernel_rfl) rfl
set_option maxRecDepth 100000 in
theorem pcovp_any (L : List Pn) (v : Value) (f t : Int) (w : World) (hv : RdPn L v w) (hL : L.length ≤ 1000000000000) :
    Calls Try.prog 18 #[v, .int .i64 f, .int .i64 t] w fun e w' => e = .returned (.bool (covP f t L)) ∧ Below w.heap.size w w' := by
  have hv2 := hv.below (b2 (.cells #[.int .i64 f] 3) (.cells #[.int .i64 t] 3))
  have hts : TellsP 26 (.pointer (some ⟨w.heap.size, 0, none⟩)) (.pointer (some ⟨w.heap.size + 1, 0, none⟩)) (fun x => conP f t x.m) ((w.alloc (.cells #[.int .i64 f] 3)).alloc (.cells #[.int .i64 t] 3)) :=
    ⟨enters_covers1, fun w' hb x hx => covers1_any f t x w.heap.size (w.heap.size + 1) w' (((bcell hb).1 w.heap.size 0 (by simp; omega)).trans (by go_simp)) (((bcell hb).1 (w.heap.size + 1) 0 (by simp)).trans (by go_simp)) hx⟩
  have HC := Lib.hid (hasPn_any _ _ _ _ L v _ hv2 hL hts)
  obtain ⟨a, cap, rfl⟩ := hv.shape
  clear hv hv2 hts
  go_enter Try.func18, Try.ntmps18
  go_wp2_with (go_at_call 25; refine HC.out.mono ?_; rintro e w1 ⟨rfl, hb⟩; have HB := Lib.hid (bgo (b2 _ _) hb); clear hb)
  go_ret
  exact ⟨rfl, HB.out⟩
end Go.Proofs.Ytledpfdflcmlcaa
