/- The reference's Release of pages. -/
import Derived.Test.YtmnahnmkffndlaaRfG
import Derived.Test.YtmnahnmkffndlaaPmS
namespace Go.Proofs.Ytmnahnmkffndlaa
open Go.RowKit Go.Maps
set_option linter.unusedVariables false
set_option linter.unusedSimpArgs false
set_option maxRecDepth 100000 in
theorem rrel_none (M : List PM) (L : List Pg) (c k m : Int) (v : Value) (w : World) (hv : OwnPM 0 M v w) (hp : PmAt 0 M L w) (ha : AscP m L) (hL : L.length ≤ 1000000) (hk : lookP L k = none) :
    Calls Try.prog 14 #[.agg #[.int .i64 c, v], .int .i64 k] w fun e w' => e = .returned (.tuple #[.agg #[.int .i64 c, v], .bool false, .int .i64 8]) ∧ Below w.heap.size w w' := by
  have hi := index_any M L c k m v ((w.alloc (.cells #[.int .i64 c, v] 29)).alloc (.cells #[.int .i64 0, .slice none 0 0] 29)) ((hv.alloc _).alloc _) (hp.kpb (KpB.below (b2 _ _))) ha hL
  obtain ⟨a, cap, rfl⟩ := hv.rd.shape
  clear hv hp ha
  go_enter Try.func14, Try.ntmps14
  go_wp2_with (go_at_call 23; refine hi.mono ?_; rintro e w2 ⟨i, rfl, hpos, hb2⟩; obtain rfl := hpos.none hk; have r2 := (RowAt.new w #[.int .i64 c, .slice a M.length cap] 29).go ((Go.Proofs.Ytmnahnmkffndlaa.b1 _).trans (hb2.mono (by simp))); have r3 := (TyAt.new1 w (.cells #[.int .i64 c, .slice a M.length cap] 29) #[.int .i64 0, .slice none 0 0] 29).below hb2 (by simp); have k0 := r2.cell (j := 0) rfl; have k1 := r2.cell (j := 1) rfl; have m0 := r3.row.cell (j := 0) rfl; have m1 := r3.row.cell (j := 1) rfl; have o0 := r3.row.open_ 0; have o1 := r3.row.open_ 1; have lt2 := r2.lt; have lt3 := r3.lt; have B2 := Lib.hid (bgo (b2 _ _) hb2); have R3 := Lib.hid r3; clear hpos hb2 r2 r3)
  exact ret_row3 rfl rfl rfl rfl rfl (ra_fin R3.out _ _).1 Try.underlying29 rfl inf_ra ⟨rfl, bset (bset B2.out _ _ _ (by omega)) _ _ _ (by omega)⟩
set_option maxRecDepth 100000 in
set_option maxHeartbeats 1000000 in
theorem rrel_some (M : List PM) (L : List Pg) (c k m : Int) (v : Value) (w : World) (hv : OwnPM 0 M v w) (hp : PmAt 0 M L w) (ha : AscP m L) (hL : L.length ≤ 1000000) {p : Pg} (hk : lookP L k = some p) (hr : 1 < p.r ∧ p.r ≤ 4611686018427387904) :
    Calls Try.prog 14 #[.agg #[.int .i64 c, v], .int .i64 k] w fun e w' => ∃ v' M', e = .returned (.tuple #[.agg #[.int .i64 c, v'], .bool false, .int .i64 0]) ∧ OwnPM 0 M' v' w' ∧ PmAt 0 M' (setP L ⟨k, p.r - 1, p.d⟩) w' ∧ Below w.heap.size w w' := by
  obtain ⟨a, cap, rfl⟩ := hv.rd.shape
  have hi := index_any M L c k m _ ((w.alloc (.cells #[.int .i64 c, .slice a M.length cap] 29)).alloc (.cells #[.int .i64 0, .slice none 0 0] 29)) ((hv.alloc _).alloc _) (hp.kpb (KpB.below (b2 _ _))) ha hL
  have hlen := hp.len
  have HV := Lib.hid hv
  have HP := Lib.hid hp
  have HA := Lib.hid ha
  have hpn := (look_some hk).2
  have HLn := Lib.hid hlen
  have HPn := Lib.hid hpn
  clear hv hp ha hlen hpn
  go_enter Try.func14, Try.ntmps14
  go_upto_region 4 with (go_at_call 23; refine hi.mono ?_; rintro e w2 ⟨i, rfl, hpos, hb2⟩; obtain ⟨j, hj, rfl, hgp⟩ := hpos.some hk; have r2 := (TyAt.new w #[.int .i64 c, .slice a M.length cap] 29).go ((Go.Proofs.Ytmnahnmkffndlaa.b1 _).trans (hb2.mono (by simp))); have r3 := (TyAt.new1 w (.cells #[.int .i64 c, .slice a M.length cap] 29) #[.int .i64 0, .slice none 0 0] 29).below hb2 (by simp); have B2 := Lib.hid (bgo (b2 _ _) hb2); have R2 := Lib.hid r2; have R3 := Lib.hid r3; clear hpos hb2 r2 r3)
  have k1 := R2.out.row.cell (j := 1) rfl
  have lt1 := R2.out.lt
  have HJ : Hid (j < L.length) := Lib.hid hj
  have HG := Lib.hid hgp
  go_upto_region 5 with (at_builtin; refine wp_appPMk rfl _ _ _ rfl w2.heap.size [] M _ _ rfl rfl (OwnPM.empty _ _) (HV.out.below B2.out).rd.src (Nat.le_refl _) (by have := HLn.out; simp; omega) ?_; intro v4 w4 o4 hb4 hk4; rw [List.nil_append] at o4; obtain ⟨a4, c4, rfl⟩ := o4.rd.shape; obtain ⟨g4, rfl, hg4, -, -, -, -⟩ := o4.block (by have := HLn.out; have := HJ.out; omega); have O4 := Lib.hid o4; have C4 := Lib.hid hb4; have K4 := Lib.hid hk4; clear o4 hb4 hk4)
  have hjM : j < M.length := by have := HLn.out; omega
  have hpm4 := (HP.out.kpb (KpB.below B2.out)).kpb (K4.out _ ne_pg8)
  obtain ⟨h1, h2, h3⟩ := hpm4.at_ hj
  rw [hgp] at h1 h2 h3
  obtain ⟨c0, c1, c2⟩ := O4.out.cellsAt hjM
  rw [h2] at c1
  have f1 := O4.out.frozen (j * 3 + 1)
  have hji : (j : Int) < (M.length : Int) := by omega
  have HJM := Lib.hid hjM
  have HM4 := Lib.hid hpm4
  have H3 := Lib.hid (show (M.getD j PM.z).n = k ∧ Own 0 p.d (M.getD j PM.z).s w4 from ⟨by rw [h1, HPn.out], h3⟩)
  have R4 := Lib.hid (R2.out.go C4.out)
  have S4 := Lib.hid (R3.out.go C4.out)
  have HRr := Lib.hid hr
  have HGe := Lib.hid (Nat.le_trans B2.out.size hg4)
  have B4 := Lib.hid (bgo B2.out C4.out)
  clear k1 lt1 hpm4 h1 h2 h3 c0 c2 hgp hi
  go_upto_region 6 with (fail)
  refine wp_genW (fun w5 => TyAt w.heap.size #[.int .i64 c, .slice a M.length cap] 29 w5 ∧ TyAt (w.heap.size + 1) #[.int .i64 0, .slice none 0 0] 29 w5 ∧ OwnPM 0 (M.set j ⟨(M.getD j PM.z).n, p.r - 1, (M.getD j PM.z).s⟩) (.slice (some ⟨g4, 0, none⟩) M.length c4) w5 ∧ PmAt 0 (M.set j ⟨(M.getD j PM.z).n, p.r - 1, (M.getD j PM.z).s⟩) (setP L ⟨k, p.r - 1, p.d⟩) w5 ∧ Below w.heap.size w w5) ?_ ?_
  · have hst := O4.out.storedC hjM (c := p.r - 1) (by have := HRr.out; omega)
    have hkp := fun T (hT : T ≠ 54) => O4.out.kp_store hT (j * 3 + 1) (.int .i64 (p.r - 1))
    refine ⟨(hkp _ ne_pra.symm).ty R4.out, (hkp _ ne_pra.symm).ty S4.out, hst.mono (Nat.zero_le _), ?_, bset B4.out _ _ _ HGe.out⟩
    rw [setP_set HA.out HJ.out (by rw [HG.out]; exact HPn.out)]
    exact (HM4.out.kpb (hkp _ ne_pg8)).set ⟨H3.out.1, rfl, H3.out.2.kpb (hkp _ ne_pg8)⟩
  rintro w5 ⟨r5, s5, o5, p5, b5⟩
  have m0 := r5.row.cell (j := 0) rfl
  have n0 := s5.row.cell (j := 0) rfl
  have n1 := s5.row.cell (j := 1) rfl
  have o0 := s5.row.open_ 0
  have o1 := s5.row.open_ 1
  have lt5 := r5.lt
  have lt6 := s5.lt
  have S5 := Lib.hid s5
  have O5 := Lib.hid o5
  have P5 := Lib.hid p5
  have B5 := Lib.hid b5
  have hjs : j < (M.set j ⟨(M.getD j PM.z).n, p.r - 1, (M.getD j PM.z).s⟩).length := by rw [List.length_set]; exact HJM.out
  have o5' := o5
  rw [show M.length = (M.set j ⟨(M.getD j PM.z).n, p.r - 1, (M.getD j PM.z).s⟩).length by rw [List.length_set]] at o5'
  obtain ⟨-, z1, -⟩ := o5'.cellsAt hjs
  have hz : ((M.set j ⟨(M.getD j PM.z).n, p.r - 1, (M.getD j PM.z).s⟩).getD j PM.z).r = p.r - 1 := by simp [List.getD, HJM.out]
  rw [hz] at z1
  have hr2 : 0 < p.r - 1 := by have := HRr.out; omega
  clear r5 s5 o5 o5' p5 b5 c1 f1 hz hjs
  go_wp2
  have hf := ra_fin S5.out (.int .i64 c) (.slice (some ⟨g4, 0, none⟩) M.length c4)
  refine ret_row3 rfl rfl rfl rfl rfl hf.1 Try.underlying29 rfl inf_ra ⟨_, _, rfl, O5.out.kpt (hf.2 _ ne_pra), P5.out.kpb (hf.2 _ ne_8ra), bset (bset B5.out _ _ _ (by omega)) _ _ _ (by omega)⟩
set_option maxRecDepth 100000 in
set_option maxHeartbeats 1000000 in
theorem rrel_last (M : List PM) (L : List Pg) (c k m : Int) (v : Value) (w : World) (hv : OwnPM 0 M v w) (hp : PmAt 0 M L w) (ha : AscP m L) (hL : L.length ≤ 1000000) {p : Pg} (hk : lookP L k = some p) (hr : p.r = 1) :
    Calls Try.prog 14 #[.agg #[.int .i64 c, v], .int .i64 k] w fun e w' => ∃ v' M', e = .returned (.tuple #[.agg #[.int .i64 c, v'], .bool true, .int .i64 0]) ∧ OwnPM 0 M' v' w' ∧ PmAt 0 M' (delP L k) w' ∧ Below w.heap.size w w' := by
  obtain ⟨a, cap, rfl⟩ := hv.rd.shape
  have hi := index_any M L c k m _ ((w.alloc (.cells #[.int .i64 c, .slice a M.length cap] 29)).alloc (.cells #[.int .i64 0, .slice none 0 0] 29)) ((hv.alloc _).alloc _) (hp.kpb (KpB.below (b2 _ _))) ha hL
  have hlen := hp.len
  have HRr := Lib.hid hr
  have hrb : 0 < p.r ∧ p.r ≤ 4611686018427387904 := by omega
  clear hr
  have HV := Lib.hid hv
  have HP := Lib.hid hp
  have HA := Lib.hid ha
  have hpn := (look_some hk).2
  have HLn := Lib.hid hlen
  have HPn := Lib.hid hpn
  clear hv hp ha hlen hpn
  go_enter Try.func14, Try.ntmps14
  go_upto_region 4 with (go_at_call 23; refine hi.mono ?_; rintro e w2 ⟨i, rfl, hpos, hb2⟩; obtain ⟨j, hj, rfl, hgp⟩ := hpos.some hk; have r2 := (TyAt.new w #[.int .i64 c, .slice a M.length cap] 29).go ((Go.Proofs.Ytmnahnmkffndlaa.b1 _).trans (hb2.mono (by simp))); have r3 := (TyAt.new1 w (.cells #[.int .i64 c, .slice a M.length cap] 29) #[.int .i64 0, .slice none 0 0] 29).below hb2 (by simp); have B2 := Lib.hid (bgo (b2 _ _) hb2); have R2 := Lib.hid r2; have R3 := Lib.hid r3; clear hpos hb2 r2 r3)
  have k1 := R2.out.row.cell (j := 1) rfl
  have lt1 := R2.out.lt
  have HJ : Hid (j < L.length) := Lib.hid hj
  have HG := Lib.hid hgp
  go_upto_region 5 with (at_builtin; refine wp_appPMk rfl _ _ _ rfl w2.heap.size [] M _ _ rfl rfl (OwnPM.empty _ _) (HV.out.below B2.out).rd.src (Nat.le_refl _) (by have := HLn.out; simp; omega) ?_; intro v4 w4 o4 hb4 hk4; rw [List.nil_append] at o4; obtain ⟨a4, c4, rfl⟩ := o4.rd.shape; obtain ⟨g4, rfl, hg4, -, -, -, -⟩ := o4.block (by have := HLn.out; have := HJ.out; omega); have O4 := Lib.hid o4; have C4 := Lib.hid hb4; have K4 := Lib.hid hk4; clear o4 hb4 hk4)
  have hjM : j < M.length := by have := HLn.out; omega
  have hpm4 := (HP.out.kpb (KpB.below B2.out)).kpb (K4.out _ ne_pg8)
  obtain ⟨h1, h2, h3⟩ := hpm4.at_ hj
  rw [hgp] at h1 h2 h3
  obtain ⟨c0, c1, c2⟩ := O4.out.cellsAt hjM
  rw [h2] at c1
  have f1 := O4.out.frozen (j * 3 + 1)
  have hji : (j : Int) < (M.length : Int) := by omega
  have HJM := Lib.hid hjM
  have HM4 := Lib.hid hpm4
  have H3 := Lib.hid (show (M.getD j PM.z).n = k ∧ Own 0 p.d (M.getD j PM.z).s w4 from ⟨by rw [h1, HPn.out], h3⟩)
  have R4 := Lib.hid (R2.out.go C4.out)
  have S4 := Lib.hid (R3.out.go C4.out)
  have HGe := Lib.hid (Nat.le_trans B2.out.size hg4)
  have B4 := Lib.hid (bgo B2.out C4.out)
  clear k1 lt1 hpm4 h1 h2 h3 c0 c2 hgp hi
  go_upto_region 6 with (fail)
  refine wp_genW (fun w5 => TyAt w.heap.size #[.int .i64 c, .slice a M.length cap] 29 w5 ∧ TyAt (w.heap.size + 1) #[.int .i64 0, .slice none 0 0] 29 w5 ∧ OwnPM w.heap.size (M.set j ⟨(M.getD j PM.z).n, p.r - 1, (M.getD j PM.z).s⟩) (.slice (some ⟨g4, 0, none⟩) M.length c4) w5 ∧ PmAt 0 (M.set j ⟨(M.getD j PM.z).n, p.r - 1, (M.getD j PM.z).s⟩) (setP L ⟨k, p.r - 1, p.d⟩) w5 ∧ Below w.heap.size w w5) ?_ ?_
  · have hst := O4.out.storedC hjM (c := p.r - 1) (by have := HRr.out; omega)
    have hkp := fun T (hT : T ≠ 54) => O4.out.kp_store hT (j * 3 + 1) (.int .i64 (p.r - 1))
    refine ⟨(hkp _ ne_pra.symm).ty R4.out, (hkp _ ne_pra.symm).ty S4.out, hst.mono B2.out.size, ?_, bset B4.out _ _ _ HGe.out⟩
    rw [setP_set HA.out HJ.out (by rw [HG.out]; exact HPn.out)]
    exact (HM4.out.kpb (hkp _ ne_pg8)).set ⟨H3.out.1, rfl, H3.out.2.kpb (hkp _ ne_pg8)⟩
  rintro w5 ⟨r5, s5, o5, p5, b5⟩
  have m0 := r5.row.cell (j := 0) rfl
  have n0 := s5.row.cell (j := 0) rfl
  have n1 := s5.row.cell (j := 1) rfl
  have o0 := s5.row.open_ 0
  have o1 := s5.row.open_ 1
  have lt5 := r5.lt
  have lt6 := s5.lt
  have S5 := Lib.hid s5
  have R5 := Lib.hid r5
  have O5 := Lib.hid o5
  have P5 := Lib.hid p5
  have B5 := Lib.hid b5
  have hjs : j < (M.set j ⟨(M.getD j PM.z).n, p.r - 1, (M.getD j PM.z).s⟩).length := by rw [List.length_set]; exact HJM.out
  have o5' := o5
  rw [show M.length = (M.set j ⟨(M.getD j PM.z).n, p.r - 1, (M.getD j PM.z).s⟩).length by rw [List.length_set]] at o5'
  obtain ⟨-, z1, -⟩ := o5'.cellsAt hjs
  have hz : ((M.set j ⟨(M.getD j PM.z).n, p.r - 1, (M.getD j PM.z).s⟩).getD j PM.z).r = p.r - 1 := by simp [List.getD, HJM.out]
  rw [hz] at z1
  have hr2 : ¬ 0 < p.r - 1 := by have := HRr.out; omega
  clear r5 s5 o5' p5 b5 c1 f1 hz hjs
  obtain ⟨N, hN⟩ : ∃ N, N = M.set j ⟨(M.getD j PM.z).n, p.r - 1, (M.getD j PM.z).s⟩ := ⟨_, rfl⟩
  have hNl : N.length = M.length := by rw [hN, List.length_set]
  have hPd : PmAt 0 (N.take j ++ N.drop (j + 1)) (delP L k) w5 := by
    rw [delP_split HA.out HJ.out (by rw [HG.out]; exact HPn.out), hN]
    have e1 : (setP L ⟨k, p.r - 1, p.d⟩).take j = L.take j := by
      rw [setP_set HA.out HJ.out (by rw [HG.out]; exact HPn.out), List.take_set_of_le (Nat.le_refl _)]
    have e2 : (setP L ⟨k, p.r - 1, p.d⟩).drop (j + 1) = L.drop (j + 1) := by
      rw [setP_set HA.out HJ.out (by rw [HG.out]; exact HPn.out), List.drop_set_of_lt (Nat.lt_succ_self _)]
    rw [← e1, ← e2]
    exact (P5.out.take j).app (P5.out.drop (j + 1))
  obtain ⟨ND, hND⟩ : ∃ ND, N.take j ++ N.drop (j + 1) = ND := ⟨_, rfl⟩
  rw [hND] at hPd
  have HND := Lib.hid hND
  clear hND
  have HPd := Lib.hid hPd
  rw [← hN] at o5
  have hcap5 := (show M.length ≤ c4 from by
    rcases o5.2.2 with ⟨he, _⟩ | ⟨g', cap', cur, he, _, _, hq, _⟩
    · cases he
    · simp only [Value.slice.injEq] at he
      obtain ⟨-, hq1, rfl⟩ := he
      omega)
  have O6 := Lib.hid (o5.below (below_drew (Below.refl w5.heap.size w5)))
  have S6 : Hid (TyAt (w.heap.size + 1) #[.int .i64 0, .slice none 0 0] 29 w5.drew) := Lib.hid S5.out
  have R6 : Hid (TyAt w.heap.size #[.int .i64 c, .slice a M.length cap] 29 w5.drew) := Lib.hid R5.out
  have HNl := Lib.hid hNl
  have hji1 : (j : Int) + 1 ≤ (M.length : Int) := by have := HJM.out; omega
  have hji2 : (j : Int) ≤ (c4 : Int) := by have := HJM.out; omega
  have hji3 : (M.length : Int) ≤ (c4 : Int) := by omega
  have hji4 : (j : Int) + 1 ≤ (c4 : Int) := by omega
  have hji5 : (0 : Int) ≤ (j : Int) + 1 := by omega
  have hwj : IntKind.i64.wrap ((j : Int) + 1) = (j : Int) + 1 := by
    have := HLn.out
    rw [IntKind.wrap_i64]
    omega
  have HC5 := Lib.hid hcap5
  clear hPd o5 hN hNl P5 O5
  have HMx : Hid (M.length ≤ 1000000) := Lib.hid (by have := HLn.out; omega)
  have B6 : Hid (Below w.heap.size w w5.drew) := Lib.hid (below_drew B5.out)
  go_upto_region 8 with (fail)
  go_region_law (refine step_appPMk rfl _ _ _ rfl w.heap.size (N.take j) (N.drop (j + 1)) (.slice (some ⟨g4, 0, none⟩) j c4) (.slice (if c4 = j + 1 then some ⟨g4, 0, none⟩ else some ⟨g4, (j + 1) * 3, none⟩) (M.length - (j + 1)) (c4 - (j + 1))) (by first | (simp only [Act.put, List.getElem_toArray, List.getElem_cons_zero, List.getElem_cons_succ, List.setIfInBounds_toArray, List.set_cons_zero, List.set_cons_succ]; rfl) | rfl) (by first | (simp only [Act.put, List.getElem_toArray, List.getElem_cons_zero, List.getElem_cons_succ, List.setIfInBounds_toArray, List.set_cons_zero, List.set_cons_succ]; rfl) | rfl) (O6.out.cutL (by have := HNl.out; have := HJM.out; omega)) (O6.out.rd.cut (j + 1) (by have := HNl.out; have := HJM.out; omega) _ (fun hlt => by have := HNl.out; have := HC5.out; rw [if_neg (by omega)]; simp) rfl rfl).src B6.out.size (by have := HMx.out; have := HNl.out; simp; omega) ?_; intro v7 w7 o7 hb7 hk7; rw [HND.out] at o7; obtain ⟨a7, c7, rfl⟩ := o7.rd.shape; have r7 := (hk7 _ ne_pra.symm).ty R6.out; have s7 := (hk7 _ ne_pra.symm).ty S6.out; have x0 := r7.row.cell (j := 0) rfl; have y0 := s7.row.cell (j := 0) rfl; have y1 := s7.row.cell (j := 1) rfl; have z0 := s7.row.open_ 0; have z2 := s7.row.open_ 1; have lt7 := r7.lt; have lt8 := s7.lt; have O7 := Lib.hid o7; have S7 := Lib.hid s7; have B7 := Lib.hid (B6.out.trans hb7); have P7 := Lib.hid ((HPd.out.kpb (KpB.below (below_drew (Below.refl w5.heap.size w5)))).kpb (hk7 _ ne_pg8)); clear o7 hb7 hk7 r7 s7)
  all_goals
    go_wp2
  all_goals
    have hf := ra_fin S7.out (.int .i64 c) (.slice a7 ND.length c7)
    refine ret_row3 rfl rfl rfl rfl rfl hf.1 Try.underlying29 rfl inf_ra ⟨_, rfl, _, (O7.out.mono (Nat.zero_le _)).kpt (hf.2 _ ne_pra), P7.out.kpb (hf.2 _ ne_8ra), bset (bset B7.out _ _ _ (by omega)) _ _ _ (by omega)⟩
end Go.Proofs.Ytmnahnmkffndlaa
