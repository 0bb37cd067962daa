/- The reference's Holds, Lookup, open, late, SameBindings. -/
import Derived.Test.YtpehbfghajlgmaaGreatBgL
import Derived.Test.YtpehbfghajlgmaaGreatStepApp
import Derived.Test.YtpehbfghajlgmaaGreatBel
import Derived.RegionTactic
import Derived.Deep.QuietTactic
import Derived.BigQuiet
import Derived.StillTailTactics
namespace Go.Proofs.YtpehbfghajlgmaaGreat
open Go.RowKit
set_option linter.unusedVariables false
set_option linter.unusedSimpArgs false
/-- A binding of a row that can be read. -/
theorem RdBg.at_ {L : List Bg} {n cap : Nat} {a : Option Addr} {w : World} (h : RdBg L (.slice a n cap) w) {j : Nat} (hj : j < L.length) :
    ∃ b off, a = some ⟨b, off, none⟩ ∧ b < w.heap.size ∧ w.cell? ⟨b, off + j * 4, none⟩ = some (.string (L.getD j Bg.z).n) ∧ w.cell? ⟨b, off + j * 4 + 1, none⟩ = some (.int .i64 (L.getD j Bg.z).r) ∧ w.cell? ⟨b, off + j * 4 + 2, none⟩ = some (.int .i64 (L.getD j Bg.z).k) ∧ w.cell? ⟨b, off + j * 4 + 3, none⟩ = some (.int .i64 (L.getD j Bg.z).s) := by
  obtain ⟨-, a', cap', he, -, -, hcell⟩ := h
  simp only [Value.slice.injEq] at he
  obtain ⟨rfl, -, rfl⟩ := he
  obtain ⟨b, off, rfl, hbl, hc⟩ := hcell (by omega)
  obtain ⟨c0, c1, c2, c3⟩ := hc j hj
  exact ⟨b, off, rfl, hbl, c0, c1, c2, c3⟩
theorem rholds_any (f t c : Int) (w : World) :
    Calls Tryz.prog 34 #[.int .i64 f, .int .i64 t, .int .i64 c] w fun e w' => e = .returned (.bool (hldB f t c)) ∧ w = w' := by
  by_cases h1 : f ≤ c
  · by_cases h2 : c < t
    · have e : hldB f t c = true := by simp [hldB, h1, h2]
      rw [e]
      clear e
      go_enter Tryz.func34, Tryz.ntmps34
      go_wp2
      go_ret
      exact ⟨rfl, rfl⟩
    · by_cases h3 : t = 0
      · have e : hldB f t c = true := by simp [hldB, h1, h3]
        rw [e]
        clear e
        subst h3
        go_enter Tryz.func34, Tryz.ntmps34
        go_wp2
        go_ret
        exact ⟨rfl, rfl⟩
      · have e : hldB f t c = false := by simp [hldB, h2, h3]
        rw [e]
        clear e
        go_enter Tryz.func34, Tryz.ntmps34
        go_wp2
        go_ret
        exact ⟨by show Ending.returned (Value.bool (t == 0)) = _; rw [beq_eq_false_iff_ne.2 h3], rfl⟩
  · have e : hldB f t c = false := by simp [hldB, h1]
    rw [e]
    clear e
    go_enter Tryz.func34, Tryz.ntmps34
    go_wp2
    go_ret
    exact ⟨rfl, rfl⟩
set_option maxRecDepth 100000 in
set_option maxHeartbeats 1000000 in
theorem ropen_any (L : List Bg) (v : Value) (nm : ByteArray) (w : World) (hv : RdBg L v w) (hL : L.length ≤ 1000000000000) :
    Calls Tryz.prog 33 #[v, .string nm] w fun e w' => e = .returned (.int .i64 (opnI (opnB L nm))) ∧ Below w.heap.size w w' := by
  obtain ⟨a, cap, rfl⟩ := hv.shape
  have HV := Lib.hid hv
  clear hv
  go_enter Tryz.func33, Tryz.ntmps33
  go_wp2
  go_loopw [5] (fun i wr => ∃ q : Nat, q ≤ L.length ∧ i = .int .i64 (q : Int) ∧ Hid (∀ x, x < q → (fun x : Bg => decide (x.n = nm) && x.s == 0) (L.getD x Bg.z) = false) ∧ Hid (Below w.heap.size w wr)) (fun i _ => L.length - (intOf i).toNat)
  case atStart => exact ⟨0, by omega, rfl, Lib.hid (fun x hx => by omega), Lib.hid (Below.refl _ _)⟩
  case round =>
    obtain ⟨q, hq, rfl, HN, HB⟩ := hrel
    by_cases hlt : q < L.length
    · have hqi : (q : Int) < (L.length : Int) := by omega
      obtain ⟨b, off, rfl, hbl, c0, c1, c2, c3⟩ := (HV.out.below HB.out).at_ hlt
      have HIT := Lib.hid (fun h => show opnB L nm = some q from fib_hit (p := fun x => decide (x.n = nm) && x.s == 0) HN.out hlt h)
      have HNX : Hid ((fun x : Bg => decide (x.n = nm) && x.s == 0) (L.getD q Bg.z) = false → ∀ x, x < q + 1 → (fun x : Bg => decide (x.n = nm) && x.s == 0) (L.getD x Bg.z) = false) := Lib.hid (fun h x hx => by
        rcases Nat.lt_or_ge x q with h' | h'
        · exact HN.out x h'
        · obtain rfl : x = q := by omega
          exact h)
      obtain ⟨y, hy⟩ : ∃ y, L.getD q Bg.z = y := ⟨_, rfl⟩
      rw [hy] at c0 c1 c2 c3 HIT HNX
      have HY := Lib.hid hy
      clear hy
      obtain ⟨m, o, f, t⟩ := y
      simp only at c0 c1 c2 c3
      by_cases hm : m = nm
      · by_cases ht : t = 0
        · have HF := Lib.hid (show opnB L nm = some q from HIT.out (by simp [hm, ht]))
          clear HIT HNX
          subst hm ht
          go_wp2
          go_ret
          exact ⟨by rw [HF.out]; rfl, HB.out⟩
        · have HF := Lib.hid (HNX.out (by simp [hm, ht]))
          have ht2 : (t == 0) = false := by simpa using ht
          clear HIT HNX
          subst hm
          go_wp2
          go_roundw
          case rel => exact ⟨q + 1, by omega, by go_num, HF, Lib.hid (HB.out)⟩
          case measure => simp [intOf]; omega
      · have HF := Lib.hid (HNX.out (by simp [hm]))
        have hm2 : (m.toList == nm.toList) = false := beq_eq_false_iff_ne.2 (fun h => hm (toL_inj h))
        clear HIT HNX
        go_wp2
        go_roundw
        case rel => exact ⟨q + 1, by omega, by go_num, HF, Lib.hid (HB.out)⟩
        case measure => simp [intOf]; omega
    · obtain rfl : q = L.length := by omega
      have HF := Lib.hid (show opnB L nm = none from fib_miss HN.out)
      go_wp2
      go_ret
      exact ⟨by rw [HF.out]; rfl, HB.out⟩
set_option maxRecDepth 100000 in
set_option maxHeartbeats 1000000 in
theorem rlate_any (L : List Bg) (v : Value) (c : Int) (w : World) (hv : RdBg L v w) (hL : L.length ≤ 1000000000000) :
    Calls Tryz.prog 31 #[v, .int .i64 c] w fun e w' => e = .returned (.bool (lateB L c)) ∧ Below w.heap.size w w' := by
  obtain ⟨a, cap, rfl⟩ := hv.shape
  have HV := Lib.hid hv
  clear hv
  go_enter Tryz.func31, Tryz.ntmps31
  go_wp2
  go_loopw [5] (fun i wr => ∃ q : Nat, q ≤ L.length ∧ i = .int .i64 (q : Int) ∧ Hid (∀ x, x < q → (fun x : Bg => decide (c < x.k) || decide (c < x.s)) (L.getD x Bg.z) = false) ∧ Hid (Below w.heap.size w wr)) (fun i _ => L.length - (intOf i).toNat)
  case atStart => exact ⟨0, by omega, rfl, Lib.hid (fun x hx => by omega), Lib.hid (Below.refl _ _)⟩
  case round =>
    obtain ⟨q, hq, rfl, HN, HB⟩ := hrel
    by_cases hlt : q < L.length
    · have hqi : (q : Int) < (L.length : Int) := by omega
      obtain ⟨b, off, rfl, hbl, c0, c1, c2, c3⟩ := (HV.out.below HB.out).at_ hlt
      have HIT := Lib.hid (fun h => show lateB L c = true from any_hit (p := fun x => decide (c < x.k) || decide (c < x.s)) hlt h)
      have HNX : Hid ((fun x : Bg => decide (c < x.k) || decide (c < x.s)) (L.getD q Bg.z) = false → ∀ x, x < q + 1 → (fun x : Bg => decide (c < x.k) || decide (c < x.s)) (L.getD x Bg.z) = false) := Lib.hid (fun h x hx => by
        rcases Nat.lt_or_ge x q with h' | h'
        · exact HN.out x h'
        · obtain rfl : x = q := by omega
          exact h)
      obtain ⟨y, hy⟩ : ∃ y, L.getD q Bg.z = y := ⟨_, rfl⟩
      rw [hy] at c0 c1 c2 c3 HIT HNX
      have HY := Lib.hid hy
      clear hy
      obtain ⟨m, o, f, t⟩ := y
      simp only at c0 c1 c2 c3
      by_cases h1 : c < f
      · have HF := Lib.hid (HIT.out (by simp [h1]))
        clear HIT HNX
        go_wp2
        go_ret
        exact ⟨by rw [HF.out]; rfl, HB.out⟩
      · by_cases h2 : c < t
        · have HF := Lib.hid (HIT.out (by simp [h2]))
          clear HIT HNX
          go_wp2
          go_ret
          exact ⟨by rw [HF.out]; rfl, HB.out⟩
        · have HF := Lib.hid (HNX.out (by simp [h1, h2] <;> omega))
          clear HIT HNX
          go_wp2
          go_roundw
          case rel => exact ⟨q + 1, by omega, by go_num, HF, Lib.hid (HB.out)⟩
          case measure => simp [intOf]; omega
    · obtain rfl : q = L.length := by omega
      have HF := Lib.hid (show lateB L c = false from any_miss HN.out)
      go_wp2
      go_ret
      exact ⟨by rw [HF.out]; rfl, HB.out⟩
set_option maxRecDepth 100000 in
set_option maxHeartbeats 2000000 in
theorem rlook_any (L : List Bg) (v : Value) (nm : ByteArray) (c : Int) (w : World) (hv : RdBg L v w) (hL : L.length ≤ 1000000000000) :
    Calls Tryz.prog 15 #[v, .string nm, .int .i64 c] w fun e w' => e = .returned (.tuple #[.int .i64 (lokO L nm c), .bool (lokB L nm c).isSome]) ∧ Below w.heap.size w w' := by
  obtain ⟨a, cap, rfl⟩ := hv.shape
  have HV := Lib.hid hv
  clear hv
  go_enter Tryz.func15, Tryz.ntmps15
  go_wp2
  go_loopw [8] (fun i wr => ∃ q : Nat, q ≤ L.length ∧ i = .int .i64 (q : Int) ∧ Hid (∀ x, x < q → (fun x : Bg => decide (x.n = nm) && hldB x.k x.s c) (L.getD x Bg.z) = false) ∧ Hid (Below w.heap.size w wr)) (fun i _ => L.length - (intOf i).toNat)
  case atStart => exact ⟨0, by omega, rfl, Lib.hid (fun x hx => by omega), Lib.hid (Below.refl _ _)⟩
  case round =>
    obtain ⟨q, hq, rfl, HN, HB⟩ := hrel
    by_cases hlt : q < L.length
    · have hqi : (q : Int) < (L.length : Int) := by omega
      obtain ⟨b, off, rfl, hbl, c0, c1, c2, c3⟩ := (HV.out.below HB.out).at_ hlt
      have HIT := Lib.hid (fun h => show lokB L nm c = some q from fib_hit (p := fun x => decide (x.n = nm) && hldB x.k x.s c) HN.out hlt h)
      have HNX : Hid ((fun x : Bg => decide (x.n = nm) && hldB x.k x.s c) (L.getD q Bg.z) = false → ∀ x, x < q + 1 → (fun x : Bg => decide (x.n = nm) && hldB x.k x.s c) (L.getD x Bg.z) = false) := Lib.hid (fun h x hx => by
        rcases Nat.lt_or_ge x q with h' | h'
        · exact HN.out x h'
        · obtain rfl : x = q := by omega
          exact h)
      obtain ⟨y, hy⟩ : ∃ y, L.getD q Bg.z = y := ⟨_, rfl⟩
      rw [hy] at c0 c1 c2 c3 HIT HNX
      have HY := Lib.hid hy
      clear hy
      obtain ⟨m, o, f, t⟩ := y
      simp only at c0 c1 c2 c3
      have hh := fun w => rholds_any f t c w
      by_cases hm : m = nm
      · cases hr : hldB f t c with
        | true =>
          have HF := Lib.hid (HIT.out (by simp [hm, hr]))
          rw [hr] at hh
          clear HIT HNX hr
          subst hm
          go_wp2
          go_quiet ((go_at_call 34; exact quiet_left (hh _)))
          go_wp2
          go_ret2
          have he : lokO L m c = o := by unfold lokO; rw [HF.out]; show (L.getD q Bg.z).r = o; rw [HY.out]
          exact ⟨by rw [he, HF.out]; rfl, below_drewN HB.out _⟩
        | false =>
          have HF := Lib.hid (HNX.out (by simp [hr]))
          rw [hr] at hh
          clear HIT HNX hr
          subst hm
          go_wp2
          go_quiet ((go_at_call 34; exact quiet_left (hh _)))
          go_wp2
          go_roundw
          case rel => exact ⟨q + 1, by omega, by go_num, HF, Lib.hid (below_drewN HB.out _)⟩
          case measure => simp [intOf]; omega
      · have HF := Lib.hid (HNX.out (by simp [hm]))
        have hm2 : (m.toList == nm.toList) = false := beq_eq_false_iff_ne.2 (fun h => hm (toL_inj h))
        clear HIT HNX
        go_wp2
        go_quiet (fail)
        go_wp2
        go_roundw
        case rel => exact ⟨q + 1, by omega, by go_num, HF, Lib.hid (below_drewN HB.out _)⟩
        case measure => simp [intOf]; omega
    · obtain rfl : q = L.length := by omega
      have HF := Lib.hid (show lokB L nm c = none from fib_miss HN.out)
      go_wp2
      go_ret2
      exact ⟨by unfold lokO; rw [HF.out]; rfl, HB.out⟩
set_option maxRecDepth 100000 in
set_option maxHeartbeats 1000000 in
theorem rsameb_any (L : List Bg) (v u : Value) (w : World) (hv : RdBg L v w) (hu : RdBg L u w) (hL : L.length ≤ 1000000) :
    Calls Tryz.prog 20 #[v, u] w fun e w' => e = .returned (.bool true) ∧ Below w.heap.size w w' := by
  obtain ⟨a, cap, rfl⟩ := hv.shape
  obtain ⟨a2, cap2, rfl⟩ := hu.shape
  have HV := Lib.hid hv
  have HU := Lib.hid hu
  clear hv hu
  go_enter Tryz.func20, Tryz.ntmps20
  go_wp2
  go_loopw [5] (fun i wr => ∃ q m : Nat, q ≤ L.length ∧ i = .int .i64 (q : Int) ∧ wr = w.drewN m) (fun i _ => L.length - (intOf i).toNat)
  case atStart => exact ⟨0, 0, by omega, rfl, rfl⟩
  case round =>
    obtain ⟨q, m, hq, rfl, rfl⟩ := hrel
    by_cases hlt : q < L.length
    · have hqi : (q : Int) < (L.length : Int) := by omega
      obtain ⟨b, off, rfl, hb, c0, c1, c2, c3⟩ := HV.out.at_ hlt
      obtain ⟨b', off', rfl, hb', d0, d1, d2, d3⟩ := HU.out.at_ hlt
      generalize L.getD q Bg.z = y at *
      go_wp2
      go_quiet (fail)
      go_wp2
      go_roundw
      case rel => exact ⟨q + 1, _, by omega, by go_num, rfl⟩
      case measure => simp [intOf]; omega
    · obtain rfl : q = L.length := by omega
      go_wp2
      go_ret
      exact ⟨rfl, below_drewN (Below.refl _ _) _⟩
end Go.Proofs.YtpehbfghajlgmaaGreat
