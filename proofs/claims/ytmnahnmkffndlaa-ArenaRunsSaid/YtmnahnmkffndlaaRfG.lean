/- The reference's Hold at a page that is there; its Release. -/
import Derived.Test.YtmnahnmkffndlaaRfH
namespace Go.Proofs.Ytmnahnmkffndlaa
open Go.RowKit Go.Maps
set_option linter.unusedVariables false
set_option linter.unusedSimpArgs false
theorem getP_memG {L : List Pg} {j : Nat} (h : j < L.length) : L.getD j Pg.z ∈ L := by
  simp [List.getD, h]
set_option maxRecDepth 100000 in
set_option maxHeartbeats 1000000 in
theorem rhold_some (M : List PM) (L : List Pg) (c k m : Int) (v : Value) (w : World) (hv : OwnPM 0 M v w) (hp : PmAt 0 M L w) (ha : AscP m L) (hL : L.length ≤ 1000000) {p : Pg} (hk : lookP L k = some p) (hr : 0 ≤ p.r ∧ p.r < 4611686018427387904) :
    Calls Try.prog 12 #[.agg #[.int .i64 c, v], .int .i64 k] w fun e w' => ∃ v' M', e = .returned (.tuple #[.agg #[.int .i64 c, v'], .int .i64 0]) ∧ OwnPM 0 M' v' w' ∧ PmAt 0 M' (setP L ⟨k, p.r + 1, p.d⟩) w' ∧ Below w.heap.size w w' := by
  obtain ⟨a, cap, rfl⟩ := hv.rd.shape
  have hi := index_any M L c k m _ ((w.alloc (.cells #[.int .i64 c, .slice a M.length cap] 29)).alloc (.cells #[.int .i64 0, .slice none 0 0] 29)) ((hv.alloc _).alloc _) (hp.kpb (KpB.below (b2 _ _))) ha hL
  have hlen := hp.len
  have HV := Lib.hid hv
  have HP := Lib.hid hp
  have HA := Lib.hid ha
  have hpn := (look_some hk).2
  have HLn := Lib.hid hlen
  have HPn := Lib.hid hpn
  clear hv hp ha hlen hpn
  go_enter Try.func12, Try.ntmps12
  go_upto_region 4 with (go_at_call 23; refine hi.mono ?_; rintro e w2 ⟨i, rfl, hpos, hb2⟩; obtain ⟨j, hj, rfl, hgp⟩ := hpos.some hk; have r2 := (TyAt.new w #[.int .i64 c, .slice a M.length cap] 29).go ((Go.Proofs.Ytmnahnmkffndlaa.b1 _).trans (hb2.mono (by simp))); have r3 := (TyAt.new1 w (.cells #[.int .i64 c, .slice a M.length cap] 29) #[.int .i64 0, .slice none 0 0] 29).below hb2 (by simp); have B2 := Lib.hid (bgo (b2 _ _) hb2); have R2 := Lib.hid r2; have R3 := Lib.hid r3; clear hpos hb2 r2 r3)
  have k1 := R2.out.row.cell (j := 1) rfl
  have lt1 := R2.out.lt
  have HJ : Hid (j < L.length) := Lib.hid hj
  have HG := Lib.hid hgp
  go_upto_region 5 with (at_builtin; refine wp_appPMk rfl _ _ _ rfl w2.heap.size [] M _ _ rfl rfl (OwnPM.empty _ _) (HV.out.below B2.out).rd.src (Nat.le_refl _) (by have := HLn.out; simp; omega) ?_; intro v4 w4 o4 hb4 hk4; rw [List.nil_append] at o4; obtain ⟨a4, c4, rfl⟩ := o4.rd.shape; obtain ⟨g4, rfl, hg4, -, -, -, -⟩ := o4.block (by have := HLn.out; have := HJ.out; omega); have O4 := Lib.hid o4; have C4 := Lib.hid hb4; have K4 := Lib.hid hk4; clear o4 hb4 hk4)
  have hjM : j < M.length := by have := HLn.out; omega
  have hpm4 := (HP.out.kpb (KpB.below B2.out)).kpb (K4.out _ ne_pg8)
  obtain ⟨h1, h2, h3⟩ := hpm4.at_ hj
  rw [hgp] at h1 h2 h3
  obtain ⟨c0, c1, c2⟩ := O4.out.cellsAt hjM
  rw [h2] at c1
  have f1 := O4.out.frozen (j * 3 + 1)
  have hji : (j : Int) < (M.length : Int) := by omega
  have HM4 := Lib.hid hpm4
  have H3 := Lib.hid (show (M.getD j PM.z).n = k ∧ Own 0 p.d (M.getD j PM.z).s w4 from ⟨by rw [h1, HPn.out], h3⟩)
  have R4 := Lib.hid (R2.out.go C4.out)
  have S4 := Lib.hid (R3.out.go C4.out)
  have HRr := Lib.hid hr
  have HGe := Lib.hid (Nat.le_trans B2.out.size hg4)
  have B4 := Lib.hid (bgo B2.out C4.out)
  clear k1 lt1 hpm4 h1 h2 h3 c0 c2 hgp hi
  go_upto_region 6 with (fail)
  refine wp_genW (fun w5 => TyAt w.heap.size #[.int .i64 c, .slice a M.length cap] 29 w5 ∧ TyAt (w.heap.size + 1) #[.int .i64 0, .slice none 0 0] 29 w5 ∧ OwnPM 0 (M.set j ⟨(M.getD j PM.z).n, p.r + 1, (M.getD j PM.z).s⟩) (.slice (some ⟨g4, 0, none⟩) M.length c4) w5 ∧ PmAt 0 (M.set j ⟨(M.getD j PM.z).n, p.r + 1, (M.getD j PM.z).s⟩) (setP L ⟨k, p.r + 1, p.d⟩) w5 ∧ Below w.heap.size w w5) ?_ ?_
  · have hst := O4.out.storedC hjM (c := p.r + 1) (by have := HRr.out; omega)
    have hkp := fun T (hT : T ≠ 54) => O4.out.kp_store hT (j * 3 + 1) (.int .i64 (p.r + 1))
    refine ⟨(hkp _ ne_pra.symm).ty R4.out, (hkp _ ne_pra.symm).ty S4.out, hst.mono (Nat.zero_le _), ?_, bset B4.out _ _ _ HGe.out⟩
    rw [setP_set HA.out HJ.out (by rw [HG.out]; exact HPn.out)]
    exact (HM4.out.kpb (hkp _ ne_pg8)).set ⟨H3.out.1, rfl, H3.out.2.kpb (hkp _ ne_pg8)⟩
  rintro w5 ⟨r5, s5, o5, p5, b5⟩
  have m0 := r5.row.cell (j := 0) rfl
  have n0 := s5.row.cell (j := 0) rfl
  have n1 := s5.row.cell (j := 1) rfl
  have o0 := s5.row.open_ 0
  have o1 := s5.row.open_ 1
  have lt5 := r5.lt
  have lt6 := s5.lt
  have S5 := Lib.hid s5
  have O5 := Lib.hid o5
  have P5 := Lib.hid p5
  have B5 := Lib.hid b5
  clear r5 s5 o5 p5 b5 c1 f1
  go_wp2
  have hf := ra_fin S5.out (.int .i64 c) (.slice (some ⟨g4, 0, none⟩) M.length c4)
  refine ret_row2 rfl rfl rfl rfl hf.1 Try.underlying29 rfl inf_ra ⟨_, _, rfl, O5.out.kpt (hf.2 _ ne_pra), P5.out.kpb (hf.2 _ ne_8ra), bset (bset B5.out _ _ _ (by omega)) _ _ _ (by omega)⟩
end Go.Proofs.Ytmnahnmkffndlaa
