/- The reference's SamePages at equal pages; Hold and Release of the reference. -/
import Derived.Test.YtmnahnmkffndlaaRfI
import Derived.StillTailTactics
namespace Go.Proofs.Ytmnahnmkffndlaa
open Go.RowKit Go.Maps
set_option linter.unusedVariables false
set_option linter.unusedSimpArgs false
theorem Rd.convG {L : List Int} {v : Value} {w : World} (h : Rd L v w) (n : Nat) : (convert 31 9 v).run Try.prog (w.drewN n) = .ok (.string (strOfNums L)) (w.drewN n) := Rd.conv (w := w.drewN n) h
/-- The cells of a page in a readable row. -/
theorem pm_at {M : List PM} {L : List Pg} {B n cap : Nat} {a : Option Addr} {w : World} (hv : OwnPM 0 M (.slice a n cap) w) (hp : PmAt B M L w) {j : Nat} (hj : j < L.length) :
    ∃ b off s1 c1, a = some ⟨b, off, none⟩ ∧ b < w.heap.size ∧ w.cell? ⟨b, off + j * 3, none⟩ = some (.int .i64 (L.getD j Pg.z).n) ∧ w.cell? ⟨b, off + j * 3 + 1, none⟩ = some (.int .i64 (L.getD j Pg.z).r) ∧ w.cell? ⟨b, off + j * 3 + 2, none⟩ = some (.slice s1 (L.getD j Pg.z).d.length c1) ∧ Own B (L.getD j Pg.z).d (.slice s1 (L.getD j Pg.z).d.length c1) w := by
  have hlen := hp.len
  obtain ⟨-, a', cap', he, -, -, hcell⟩ := hv.rd
  simp only [Value.slice.injEq] at he
  obtain ⟨rfl, -, rfl⟩ := he
  obtain ⟨b, off, rfl, hbl, hc⟩ := hcell (by omega)
  obtain ⟨c0, c1, c2⟩ := hc j (by omega)
  obtain ⟨h1, h2, h3⟩ := hp.at_ hj
  obtain ⟨a3, c3, he3⟩ := h3.shape
  rw [he3] at c2 h3
  rw [h1] at c0
  rw [h2] at c1
  exact ⟨b, off, a3, c3, rfl, hbl, c0, c1, c2, h3⟩
set_option maxRecDepth 100000 in
set_option maxHeartbeats 1000000 in
theorem same_pgs (M N : List PM) (L : List Pg) (v u : Value) (w : World) (hv : OwnPM 0 M v w) (hu : OwnPM 0 N u w) (hp : PmAt 0 M L w) (hq : PmAt 0 N L w) (hL : L.length ≤ 1000000) :
    Calls Try.prog 18 #[v, u] w fun e w' => e = .returned (.bool true) ∧ Below w.heap.size w w' := by
  obtain ⟨a, cap, rfl⟩ := hv.rd.shape
  obtain ⟨a2, cap2, rfl⟩ := hu.rd.shape
  have l1 := hp.len
  have l2 := hq.len
  have HV := Lib.hid hv
  have HU := Lib.hid hu
  have HP := Lib.hid hp
  have HQ := Lib.hid hq
  rw [l1, l2]
  clear hv hu hp hq
  go_enter Try.func18, Try.ntmps18
  go_wp2
  go_loopw [5] (fun i wr => ∃ k : Nat, k ≤ L.length ∧ i = .int .i64 (k : Int) ∧ Hid (Below w.heap.size w wr)) (fun i _ => L.length - (intOf i).toNat)
  case atStart => exact ⟨0, by omega, rfl, Lib.hid (Below.refl _ _)⟩
  case round =>
    obtain ⟨k, hk, rfl, HB⟩ := hrel
    by_cases hlt : k < L.length
    · have hki : (k : Int) < (L.length : Int) := by omega
      obtain ⟨b, off, s1, e1, rfl, hb, c0, c1, c2, ho⟩ := pm_at (HV.out.below HB.out) (HP.out.kpb (KpB.below HB.out)) hlt
      obtain ⟨b2, off2, s2, e2, rfl, hb2, d0, d1, d2, ho2⟩ := pm_at (HU.out.below HB.out) (HQ.out.kpb (KpB.below HB.out)) hlt
      have cv1 := ho.rd.convG
      have cv2 := ho2.rd.convG
      clear ho ho2
      generalize L.getD k Pg.z = p at *
      generalize strOfNums p.d = s at *
      go_wp2
      go_quiet (fail)
      go_wp2
      go_roundw
      case rel => exact ⟨k + 1, by omega, by go_num, Lib.hid (below_drewN HB.out _)⟩
      case measure => simp [intOf]; omega
    · obtain rfl : k = L.length := by omega
      go_wp2
      go_ret
      exact ⟨rfl, HB.out⟩
end Go.Proofs.Ytmnahnmkffndlaa
