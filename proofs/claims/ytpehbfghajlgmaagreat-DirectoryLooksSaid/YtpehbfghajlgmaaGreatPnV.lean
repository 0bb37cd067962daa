/- The program's Validate, Total and Covers of pins. -/
import Derived.Test.YtpehbfghajlgmaaGreatPnB
import Derived.Test.YtpehbfghajlgmaaGreatPnF
namespace Go.Proofs.YtpehbfghajlgmaaGreat
open Go.RowKit
set_option linter.unusedVariables false
set_option linter.unusedSimpArgs false
theorem totF_step {L : List Pn} {q : Nat} (hlt : q < L.length) (h63 : (L.getD q Pn.z).n ≤ 9223372036854775807) : totF 0 (L.take (q + 1)) = min (totF 0 (L.take q) + min (max (L.getD q Pn.z).n 0) 1099511627776) 1099511627776 := by
  have hb := totF_bd (L.take q) (a := 0) (by decide) (by decide)
  rw [pn_take hlt, totF_snoc]
  unfold satN nat0
  split <;> omega
/-- A closure that answers p of a pin, in this world and in all that follow. -/
def TellsP (f : FuncId) (c1 c2 : Value) (p : Pn → Bool) (w : World) : Prop :=
  (∀ args w, (callFunc f args).run Tryz.prog w = .ok (.enter f args) w) ∧ ∀ w', Below w.heap.size w w' → ∀ x : Pn, x.ok → Calls Tryz.prog f #[.agg #[.int .i64 x.m, .int .i64 x.n], c1, c2] w' fun e w'' => e = .returned (.bool (p x)) ∧ Below w'.heap.size w' w''
/-- What IndexFunc answers. -/
def IdxPost (L : List Pn) (p : Pn → Bool) (w : World) (e : Ending) (w' : World) : Prop := ∃ k : Int, e = .returned (.int .i64 k) ∧ (-1 ≤ k ∧ k ≤ L.length) ∧ (0 ≤ k ↔ L.any p = true) ∧ Below w.heap.size w w'
set_option maxRecDepth 100000 in
set_option maxHeartbeats 2000000 in
theorem idxPn_any (f : FuncId) (c1 c2 : Value) (p : Pn → Bool) (L : List Pn) (v : Value) (w : World) (hv : RdPn L v w) (hL : L.length ≤ 1000000000000) (ht : TellsP f c1 c2 p w) :
    Calls Tryz.prog 83 #[v, .func (.func f) #[] #[c1, c2]] w fun e w' => IdxPost L p w e w' := by
  obtain ⟨a, cap, rfl⟩ := hv.shape
  obtain ⟨he, hf⟩ := ht
  have HF := Lib.hid hf
  have HV := Lib.hid hv
  clear hf hv
  go_enter Tryz.func83, Tryz.ntmps83
  go_wp2
  go_loopw [5, 8] (fun _ i wr => ∃ q : Nat, q ≤ L.length ∧ i = .int .i64 (q : Int) ∧ Hid (Below w.heap.size w wr) ∧ Hid (∀ x, x < q → p (L.getD x Pn.z) = false)) (fun _ i _ => L.length - (intOf i).toNat)
  case atStart => exact ⟨0, by omega, rfl, Lib.hid (Below.refl _ _), Lib.hid (fun x hx => by omega)⟩
  case round =>
    obtain ⟨q, hq, rfl, HB, HN⟩ := hrel
    by_cases hlt : q < L.length
    · have hqi : (q : Int) < (L.length : Int) := by omega
      obtain ⟨b, off, rfl, hbl, c0, c1⟩ := (HV.out.below HB.out).at_ hlt
      have HC := Lib.hid (HF.out wr HB.out (L.getD q Pn.z) (HV.out.1.at_ q))
      have HMEM : Hid (L.getD q Pn.z ∈ L) := Lib.hid (by simp [List.getD, hlt])
      obtain ⟨x, hx⟩ : ∃ x, L.getD q Pn.z = x := ⟨_, rfl⟩
      rw [hx] at c0 c1 HC HMEM
      have HX := Lib.hid hx
      have hL1 : (-1 : Int) ≤ (q : Int) ∧ (q : Int) ≤ (L.length : Int) := by omega
      clear hx
      cases hpx : p x with
      | true =>
        have hc := HC.out
        rw [hpx] at hc
        have HC2 := Lib.hid hc
        have HR : Hid (L.any p = true) := Lib.hid (List.any_eq_true.2 ⟨x, HMEM.out, hpx⟩)
        clear hc HC
        go_wp2_with ((with_reducible refine HC2.out.mono ?_); rintro e w' ⟨rfl, hb⟩; have HB2 := Lib.hid (bgo HB.out hb); clear hb)
        go_ret
        exact ⟨q, rfl, hL1, ⟨fun _ => HR.out, fun _ => by omega⟩, HB2.out⟩
      | false =>
        have hc := HC.out
        rw [hpx] at hc
        have HC2 := Lib.hid hc
        have HN2 : Hid (∀ y, y < q + 1 → p (L.getD y Pn.z) = false) := Lib.hid (fun y hy => by
          rcases Nat.lt_or_ge y q with h | h
          · exact HN.out y h
          · obtain rfl : y = q := by omega
            rw [HX.out, hpx])
        clear hc HC
        go_wp2_with ((with_reducible refine HC2.out.mono ?_); rintro e w' ⟨rfl, hb⟩; have HB2 := Lib.hid (bgo HB.out hb); clear hb)
        go_roundw
        case rel => exact ⟨q + 1, by omega, by go_num, HB2, HN2⟩
        case measure => simp [intOf]; omega
    · obtain rfl : q = L.length := by omega
      have HR : Hid (L.any p = false) := Lib.hid (by
        rw [List.any_eq_false]
        intro x hx
        obtain ⟨j, hj, rfl⟩ := List.mem_iff_getElem.1 hx
        have := HN.out j hj
        simpa [List.getD, hj] using this)
      go_wp2
      go_ret
      exact ⟨-1, rfl, ⟨by omega, by omega⟩, ⟨fun h => absurd h (by decide), fun h => by rw [HR.out] at h; cases h⟩, HB.out⟩
set_option maxRecDepth 100000 in
theorem hasPn_any (f : FuncId) (c1 c2 : Value) (p : Pn → Bool) (L : List Pn) (v : Value) (w : World) (hv : RdPn L v w) (hL : L.length ≤ 1000000000000) (ht : TellsP f c1 c2 p w) :
    Calls Tryz.prog 64 #[v, .func (.func f) #[] #[c1, c2]] w fun e w' => e = .returned (.bool (L.any p)) ∧ Below w.heap.size w w' := by
  have hi := idxPn_any f c1 c2 p L v w hv hL ht
  have hcs : ∀ r : Bool, L.any p = r → r = L.any p := fun r h => h.symm
  obtain ⟨r, hr⟩ : ∃ r, L.any p = r := ⟨_, rfl⟩
  obtain ⟨a, cap, rfl⟩ := hv.shape
  have HR := Lib.hid hr
  rw [hr]
  clear hr hcs hv
  go_enter Tryz.func64, Tryz.ntmps64
  go_wp2_with (go_at_call 83; refine hi.mono ?_; rintro e w1 ⟨k, rfl, hk, h2, hb⟩; have HK := Lib.hid h2; have HB := Lib.hid hb; clear h2 hb)
  go_ret
  refine ⟨ret_bool ?_, HB.out⟩
  rw [Bool.eq_iff_iff, ← HR.out, ← HK.out]
  simp
set_option maxRecDepth 100000 in
set_option maxHeartbeats 1000000 in
theorem covers1_any (f t : Int) (x : Pn) (gf gt : Nat) (w : World) (h1 : w.cell? ⟨gf, 0, none⟩ = some (.int .i64 f)) (h2 : w.cell? ⟨gt, 0, none⟩ = some (.int .i64 t)) (hx : x.ok) :
    Calls Tryz.prog 65 #[.agg #[.int .i64 x.m, .int .i64 x.n], .pointer (some ⟨gf, 0, none⟩), .pointer (some ⟨gt, 0, none⟩)] w fun e w' => e = .returned (.bool (conP f t x.m)) ∧ Below w.heap.size w w' := by
  obtain ⟨m, n⟩ := x
  have hlt1 := World.block_lt_of_cell? w _ h1
  have hlt2 := World.block_lt_of_cell? w _ h2
  simp only at hlt1 hlt2
  show Calls _ _ _ _ fun e w' => e = .returned (.bool (conP f t m)) ∧ _
  unfold conP
  by_cases hc1 : f ≤ m
  · by_cases hc2 : m < t
    · go_enter Tryz.func65, Tryz.ntmps65
      go_wp2
      go_ret
      exact ⟨ret_bool (by simp [hc1, hc2]), b1 _⟩
    · go_enter Tryz.func65, Tryz.ntmps65
      go_wp2
      all_goals
        go_ret
        exact ⟨ret_bool (by rw [Bool.eq_iff_iff]; simp [*] <;> omega), b1 _⟩
  · go_enter Tryz.func65, Tryz.ntmps65
    go_wp2
    go_ret
    exact ⟨ret_bool (by rw [Bool.eq_iff_iff]; simp [*] <;> omega), b1 _⟩
theorem enters_covers1 : ∀ args w, (callFunc 65 args).run Tryz.prog w = .ok (.enter 65 args) w := Go.Proofs.enters_of Tryz.func65 (by kernel_rfl) rfl
set_option maxRecDepth 100000 in
theorem pcovp_any (L : List Pn) (v : Value) (f t : Int) (w : World) (hv : RdPn L v w) (hL : L.length ≤ 1000000000000) :
    Calls Tryz.prog 43 #[v, .int .i64 f, .int .i64 t] w fun e w' => e = .returned (.bool (covP f t L)) ∧ Below w.heap.size w w' := by
  have hv2 := hv.below (b2 (.cells #[.int .i64 f] 3) (.cells #[.int .i64 t] 3))
  have hts : TellsP 65 (.pointer (some ⟨w.heap.size, 0, none⟩)) (.pointer (some ⟨w.heap.size + 1, 0, none⟩)) (fun x => conP f t x.m) ((w.alloc (.cells #[.int .i64 f] 3)).alloc (.cells #[.int .i64 t] 3)) :=
    ⟨enters_covers1, fun w' hb x hx => covers1_any f t x w.heap.size (w.heap.size + 1) w' (((bcell hb).1 w.heap.size 0 (by simp; omega)).trans (by go_simp)) (((bcell hb).1 (w.heap.size + 1) 0 (by simp)).trans (by go_simp)) hx⟩
  have HC := Lib.hid (hasPn_any _ _ _ _ L v _ hv2 hL hts)
  obtain ⟨a, cap, rfl⟩ := hv.shape
  clear hv hv2 hts
  go_enter Tryz.func43, Tryz.ntmps43
  go_wp2_with (go_at_call 64; refine HC.out.mono ?_; rintro e w1 ⟨rfl, hb⟩; have HB := Lib.hid (bgo (b2 _ _) hb); clear hb)
  go_ret
  exact ⟨rfl, HB.out⟩
end Go.Proofs.YtpehbfghajlgmaaGreat
