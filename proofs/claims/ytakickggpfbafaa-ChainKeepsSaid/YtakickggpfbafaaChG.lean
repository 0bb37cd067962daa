/- The reference's SameVersion and SameChain at equal chains. -/
import Derived.Test.YtakickggpfbafaaChE
import Derived.Deep.RegionLaw
namespace Go.Proofs.Ytakickggpfbafaa
open Go.RowKit
set_option linter.unusedVariables false
set_option linter.unusedSimpArgs false
theorem RdI.cellG {Z : List Int} {a : Option Addr} {n cap : Nat} {w : World} (h : RdI Z (.slice a n cap) w) {j : Nat} (hj : j < Z.length) : ∃ b off, a = some ⟨b, off, none⟩ ∧ b < w.heap.size ∧ w.cell? ⟨b, off + j, none⟩ = some (.int .i64 (Z.getD j 0)) := by
  obtain ⟨-, a', cap', he, -, -, h3⟩ := h
  simp only [Value.slice.injEq] at he
  obtain ⟨rfl, -, rfl⟩ := he
  obtain ⟨b, off, rfl, hb, hc⟩ := h3 (by omega)
  exact ⟨b, off, rfl, hb, hc j hj⟩
set_option maxRecDepth 100000 in
set_option maxHeartbeats 4000000 in
theorem same_vs (n r k : Int) (s s' : Value) (p : List Int) (w : World) (hs : RdI p s w) (hs' : RdI p s' w) (hp : p.length ≤ 1000000) :
    Calls Try.prog 23 #[.agg #[.int .i64 n, .int .i64 r, .int .i64 k, s], .agg #[.int .i64 n, .int .i64 r, .int .i64 k, s']] w fun e w' => e = .returned (.bool true) ∧ Below w.heap.size w w' := by
  obtain ⟨a, cap, rfl⟩ := hs.shape
  obtain ⟨a', cap', rfl⟩ := hs'.shape
  have HS := Lib.hid (hs.below (b2 (.cells #[.int .i64 n, .int .i64 r, .int .i64 k, .slice a p.length cap] 33) (.cells #[.int .i64 n, .int .i64 r, .int .i64 k, .slice a' p.length cap'] 33)))
  have HS' := Lib.hid (hs'.below (b2 (.cells #[.int .i64 n, .int .i64 r, .int .i64 k, .slice a p.length cap] 33) (.cells #[.int .i64 n, .int .i64 r, .int .i64 k, .slice a' p.length cap'] 33)))
  have HB2 := Lib.hid (b2 (a := w) (.cells #[.int .i64 n, .int .i64 r, .int .i64 k, .slice a p.length cap] 33) (.cells #[.int .i64 n, .int .i64 r, .int .i64 k, .slice a' p.length cap'] 33))
  clear hs hs'
  go_enter Try.func23, Try.ntmps23
  go_wp2
  have e3 : ((w.alloc (.cells #[.int .i64 n, .int .i64 r, .int .i64 k, .slice a p.length cap] 33)).alloc (.cells #[.int .i64 n, .int .i64 r, .int .i64 k, .slice a' p.length cap'] 33)).cell? ⟨w.heap.size, 3, none⟩ = some (.slice a p.length cap) := by go_simp
  have f3 : ((w.alloc (.cells #[.int .i64 n, .int .i64 r, .int .i64 k, .slice a p.length cap] 33)).alloc (.cells #[.int .i64 n, .int .i64 r, .int .i64 k, .slice a' p.length cap'] 33)).cell? ⟨w.heap.size + 1, 3, none⟩ = some (.slice a' p.length cap') := by go_simp
  generalize (w.alloc (.cells #[.int .i64 n, .int .i64 r, .int .i64 k, .slice a p.length cap] 33)).alloc (.cells #[.int .i64 n, .int .i64 r, .int .i64 k, .slice a' p.length cap'] 33) = w2 at *
  go_loopw [5] (fun i wr => ∃ q m : Nat, q ≤ p.length ∧ i = .int .i64 (q : Int) ∧ wr = w2.drewN m) (fun i _ => p.length - (intOf i).toNat)
  case atStart => exact ⟨0, 0, by omega, rfl, rfl⟩
  case round =>
    obtain ⟨q, m, hq, rfl, rfl⟩ := hrel
    by_cases hlt : q < p.length
    · have hqi : (q : Int) < (p.length : Int) := by omega
      obtain ⟨b, off, rfl, hb, c0⟩ := HS.out.cellG hlt
      obtain ⟨b', off', rfl, hb', c1⟩ := HS'.out.cellG hlt
      generalize p.getD q 0 = y at *
      go_wp2
      go_quiet (fail)
      go_wp2
      go_roundw
      case rel => exact ⟨q + 1, _, by omega, by go_num, rfl⟩
      case measure => simp [intOf]; omega
    · obtain rfl : q = p.length := by omega
      go_wp2
      go_ret
      exact ⟨rfl, below_drewN HB2.out _⟩
/-- A version of a chain, its cells and its pages. -/
theorem vm_at {M : List Vs} {L : List Vn} {n cap : Nat} {a : Option Addr} {w : World} (hv : RdVs M (.slice a n cap) w) (hp : VmAt 0 M L w) {j : Nat} (hj : j < L.length) :
    ∃ b off s1 c1, a = some ⟨b, off, none⟩ ∧ b < w.heap.size ∧ w.cell? ⟨b, off + j * 4, none⟩ = some (.int .i64 (L.getD j Vn.z).n) ∧ w.cell? ⟨b, off + j * 4 + 1, none⟩ = some (.int .i64 (L.getD j Vn.z).r) ∧ w.cell? ⟨b, off + j * 4 + 2, none⟩ = some (.int .i64 (L.getD j Vn.z).k) ∧ w.cell? ⟨b, off + j * 4 + 3, none⟩ = some (.slice s1 (L.getD j Vn.z).p.length c1) ∧ RdI (L.getD j Vn.z).p (.slice s1 (L.getD j Vn.z).p.length c1) w := by
  have hlen := hp.len
  obtain ⟨b, off, rfl, hb, c0, c1, c2, c3⟩ := hv.at_ (j := j) (by omega)
  obtain ⟨h1, h2, h3, h4⟩ := hp.at_ hj
  obtain ⟨a3, e3, he3⟩ := h4.rd.shape
  rw [he3] at c3 h4
  rw [h1] at c0
  rw [h2] at c1
  rw [h3] at c2
  exact ⟨b, off, a3, e3, rfl, hb, c0, c1, c2, c3, h4.rd⟩
set_option maxRecDepth 100000 in
set_option maxHeartbeats 4000000 in
theorem same_chn (M N : List Vs) (L : List Vn) (v u : Value) (w : World) (hv : RdVs M v w) (hu : RdVs N u w) (hp : VmAt 0 M L w) (hq : VmAt 0 N L w) (hL : L.length ≤ 1000) (hpl : ∀ x ∈ L, x.p.length ≤ 1000000) :
    Calls Try.prog 17 #[v, u] w fun e w' => e = .returned (.bool true) ∧ Below w.heap.size w w' := by
  obtain ⟨a, cap, rfl⟩ := hv.shape
  obtain ⟨a2, cap2, rfl⟩ := hu.shape
  have l1 := hp.len
  have l2 := hq.len
  have HV := Lib.hid hv
  have HU := Lib.hid hu
  have HP := Lib.hid hp
  have HQ := Lib.hid hq
  have HPL := Lib.hid hpl
  rw [l1] at HV
  rw [l2] at HU
  rw [l1, l2]
  clear hv hu hp hq hpl
  go_enter Try.func17, Try.ntmps17
  go_wp2
  go_loopw [5] (fun i wr => ∃ k : Nat, k ≤ L.length ∧ i = .int .i64 (k : Int) ∧ Hid (Below w.heap.size w wr)) (fun i _ => L.length - (intOf i).toNat)
  case atStart => exact ⟨0, by omega, rfl, Lib.hid (Below.refl _ _)⟩
  case round =>
    obtain ⟨k, hk, rfl, HB⟩ := hrel
    by_cases hlt : k < L.length
    · have hki : (k : Int) < (L.length : Int) := by omega
      obtain ⟨b, off, s1, e1, rfl, hb, c0, c1, c2, c3, ho⟩ := vm_at (HV.out.below HB.out) (HP.out.below HB.out) hlt
      obtain ⟨b2, off2, s2, e2, rfl, hb2, d0, d1, d2, d3, ho2⟩ := vm_at (HU.out.below HB.out) (HQ.out.below HB.out) hlt
      have hpx := HPL.out (L.getD k Vn.z) (by simp [List.getD, hlt])
      generalize L.getD k Vn.z = x at *
      obtain ⟨xn, xr, xk, xp⟩ := x
      have HC := Lib.hid (fun (w' : World) (hb' : Below wr.heap.size wr w') => same_vs xn xr xk _ _ xp w' (ho.below hb') (ho2.below hb') hpx)
      simp only at c0 c1 c2 c3 d0 d1 d2 d3
      clear ho ho2 hpx
      go_wp2
      go_region_law ((try go_simp); go_at_call 23; (with_reducible refine (HC.out _ (by first | exact Below.refl _ _ | exact (Below.refl _ _).drew)).mono ?_); rintro e w3 ⟨rfl, hb3⟩; have B3 : Hid (Below w.heap.size w w3) := Lib.hid (by first | exact bgo HB.out hb3 | exact bgo HB.out.drew hb3); clear hb3)
      all_goals
        go_wp2
        go_roundw
        case rel => exact ⟨k + 1, by omega, by go_num, Lib.hid (by first | exact B3.out | exact below_drewN B3.out _)⟩
        case measure => simp [intOf]; omega
    · obtain rfl : k = L.length := by omega
      go_wp2
      go_ret
      exact ⟨rfl, HB.out⟩
end Go.Proofs.Ytakickggpfbafaa
