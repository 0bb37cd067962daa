/- The walk of ArenaCopies. -/
import Derived.Test.YtmnahnmkffndlaaKn15
import Derived.Test.YtmnahnmkffndlaaArD
import Derived.Test.YtmnahnmkffndlaaByO
namespace Go.Proofs.Ytmnahnmkffndlaa
open Go.RowKit Go.Maps
set_option linter.unusedVariables false
set_option linter.unusedSimpArgs false
/-- A store into a row of bytes below block B. -/
theorem ArAt.store {B g bm : Nat} {c lo : Int} {L : List Pg} {w : World} (h : ArAt B g bm c lo L w) {k : Nat} (hk : k < B) {cur : Array Value} (hc : w.heap[k]? = some (.cells cur 5 (0, 0))) (j : Nat) (u : Value) : ArAt B g bm c lo L (w.setCell ⟨k, j, none⟩ u) := by
  have ho := oth_cell k j w u
  have hg : g ≠ k := fun e => h.not_bytes cur (e ▸ hc)
  have hb : bm ≠ k := fun e => h.map.not_bytes cur (e ▸ hc)
  obtain ⟨cu, h1, h2⟩ := h.row
  obtain ⟨D, ho1, hs, hl⟩ := h.map
  refine ⟨⟨cu, (ho.2 g hg).trans h1, h2⟩, ⟨D, ?_, hs, fun x => ⟨(hl x).1, fun p hp => ?_⟩⟩, h.asc, h.refs, h.cap, h.num, h.low⟩
  · obtain ⟨es, clock, hb', r⟩ := ho1
    exact ⟨es, clock, (ho.2 bm hb).trans hb', r⟩
  · obtain ⟨q1, s, q2, q3⟩ := (hl x).2 p hp
    refine ⟨q1, s, ⟨q2.1, ownsRow_setCell_below q2.2 hk u⟩, q3⟩
theorem Own.blk {B : Nat} {L : List Int} {g n cap : Nat} {w : World} (h : Own B L (.slice (some ⟨g, 0, none⟩) n cap) w) : ∃ cur, w.heap[g]? = some (.cells cur 5 (0, 0)) := by
  obtain ⟨hy, h1, h2⟩ := h
  rcases h2 with ⟨he, _⟩ | ⟨g', cap', cur, he, hb', hg, r⟩
  · cases he
  · simp only [Value.slice.injEq, Option.some.injEq, Addr.mk.injEq] at he
    obtain ⟨⟨rfl, -⟩, -⟩ := he
    exact ⟨cur, hg⟩
theorem mask16p (n : Int) : bits .and .i64 n 65535 = n % 65536 := i64_mask 16 (by decide) n
set_option maxRecDepth 100000 in
set_option maxHeartbeats 2000000 in
theorem arenaCopies_walk (n : Int) (w : World) (hn : (Lit.int .i64 n).wf = true) :
    Calls Try.prog 5 #[.int .i64 n] w fun e w' => e = .returned (.bool true) ∧ Below w.heap.size w w' := by
  have hnew := arNew_any 3 w (by decide) (by decide)
  have hm := mask16p n
  have hm0 : 0 ≤ n % 65536 ∧ n % 65536 ≤ 65535 := by omega
  have hK : InI 1 := ⟨by decide, by decide⟩
  clear hn
  generalize n % 65536 = m at hm hm0
  go_enter Try.func5, Try.ntmps5
  go_upto_region 9 with (first
    | (go_at_call 7; refine hnew.mono ?_; rintro e w1 ⟨rfl, a1, b1', -⟩; have A1 := Lib.hid a1; have B1 := Lib.hid b1'; clear a1 b1' hnew)
    | (go_at_call 8; refine (bytes_own m w1 hm0.1 hm0.2).mono ?_; rintro e w2 ⟨Ld, v2, hLd, rfl, o2, hb2⟩; have O2 := Lib.hid o2; have HL2 := Lib.hid hLd; have C2 := Lib.hid hb2; clear o2 hLd hb2)
    | (at_builtin; refine wp_app rfl _ _ _ rfl w1.heap.size Ld [5] _ _ rfl rfl (O2.out.alloc _) (Own.one (by decide) w2).rd.src (by have := C2.out.size; simp; omega) (by have := HL2.out; simp; omega) ?_; intro v3 w3 o3 hb3; have HL3 := Lib.hid (show (Ld ++ [(5 : Int)]).length ≤ 61 by have := HL2.out; simp; omega); have HP3 := Lib.hid (show 0 < (Ld ++ [(5 : Int)]).length by simp); generalize Ld ++ [(5 : Int)] = D at o3 HL3 HP3; obtain ⟨a3, c3, rfl⟩ := o3.shape; obtain ⟨gd, rfl, hgB, hcd, hsd⟩ := o3.cells HP3.out; have O3 := Lib.hid o3; have C3 : Hid (Below w1.heap.size w1 w3) := Lib.hid ((C2.out.trans ((Go.Proofs.Ytmnahnmkffndlaa.b1 _).mono C2.out.size)).trans hb3); have cv3 := o3.rd.conv; clear o3 hb3 hcd hsd O2 C2)
    | (go_at_call 9; refine (alloc_to (lo := 1) (L := []) ((A1.out w3.heap.size).below C3.out) w1.heap.size D _ O3.out (by have := HL3.out; omega) (by decide) (Nat.le_refl _) (n := 1) rfl rfl).mono ?_; rintro e w4 ⟨rfl, a4, t4⟩; have A4 := Lib.hid a4; have T4 := Lib.hid t4; clear a4 t4))
  have h3 := (A1.out w3.heap.size).below C3.out
  have O4 := Lib.hid (O3.out.kpb (KpT.tn ne_ar8 h3 T4.out))
  have hgd : gd < w3.heap.size := by
    obtain ⟨cur, hc⟩ := O3.out.blk
    exact (Array.getElem?_eq_some_iff.1 hc).1
  have HGD := Lib.hid hgd
  have HBL := Lib.hid O4.out.blk
  have HB4 : Hid (Below w.heap.size w w4) := Lib.hid (bTn (bgo B1.out C3.out) T4.out (by omega) (by omega))
  obtain ⟨g', hg', -, hcd, -⟩ := O4.out.cells HP3.out
  simp only [Option.some.injEq, Addr.mk.injEq, and_true] at hg'
  subst hg'
  obtain ⟨k0, k1⟩ := hcd 0 HP3.out
  have hx0 : 0 ≤ D.getD 0 0 ∧ D.getD 0 0 ≤ 255 := by
    have hp := HP3.out
    have := O3.out.1 D[0] (List.getElem_mem hp)
    simpa [List.getD, hp] using this
  have HGB : Hid (w.heap.size ≤ gd) := Lib.hid (Nat.le_trans B1.out.size hgB)
  have HDl : Hid (D.length ≤ 1000000000000) := Lib.hid (by have := HL3.out; omega)
  have hlp : (0 : Int) < (D.length : Int) := by have := HP3.out; omega
  generalize hsD : strOfNums D = sD at *
  have HSD := Lib.hid hsD
  clear hsD
  clear h3 hcd cv3 O3 C3 T4 A1 hgB hgd
  have hKK := hK
  go_upto_region 10 with (fail)
  refine wp_genW (fun w5 => ArAt w3.heap.size (w.heap.size + 1) w.heap.size 3 (1 + 1) (insP ⟨1, 1, D⟩ []) w5 ∧ Below w.heap.size w w5) ?_ ?_
  · obtain ⟨cur, hc⟩ := HBL.out
    exact ⟨A4.out.store HGD.out hc _ _, bset HB4.out _ _ _ HGB.out⟩
  rintro w5 ⟨a5, b5⟩
  have A5 := Lib.hid a5
  have B5 := Lib.hid b5
  clear a5 b5 k0 k1 A4 O4 HBL HB4 HGD HGB
  go_upto_region 13 with (go_at_call 15; refine (data_some A5.out 1 hK (p := ⟨1, 1, D⟩) rfl HDl.out).mono ?_; rintro e w6 ⟨v6, rfl, o6, hb6⟩; have cv6 := o6.rd.conv; rw [HSD.out] at cv6; obtain ⟨a6, c6, rfl⟩ := o6.shape; obtain ⟨gx, rfl, hgx, hcx, -⟩ := o6.cells HP3.out; obtain ⟨q0, q1⟩ := hcx 0 HP3.out; have HGX := Lib.hid hgx; have C6 := Lib.hid hb6; clear o6 hb6 hgx hcx)
  clear cv6
  go_upto_region 14 with (fail)
  refine wp_genW (fun w7 => ArAt w3.heap.size (w.heap.size + 1) w.heap.size 3 (1 + 1) (insP ⟨1, 1, D⟩ []) w7 ∧ Below w.heap.size w w7) ?_ ?_
  · exact ⟨A5.out.below (bset C6.out gx 0 _ HGX.out), bgo B5.out (bset C6.out gx 0 _ HGX.out)⟩
  rintro w7 ⟨a7, b7⟩
  have A7 := Lib.hid a7
  have B7 := Lib.hid b7
  clear a7 b7 q0 q1 A5 B5 HGX C6
  go_upto_region 18 with (first
    | (go_at_call 15; refine (data_some A7.out 1 hK (p := ⟨1, 1, D⟩) rfl HDl.out).mono ?_; rintro e w8 ⟨v8, rfl, o8, hb8⟩; obtain ⟨a8, c8, rfl⟩ := o8.shape; have O8 := Lib.hid o8; have A8 := Lib.hid (A7.out.below hb8); have B8 := Lib.hid (bgo B7.out hb8); clear o8 hb8)
    | (go_at_call 19; refine (dump_any A8.out (fun p hp => by obtain rfl : p = ⟨1, 1, D⟩ := (by simpa [insP] using hp); exact HDl.out)).mono ?_; rintro e w9 ⟨v9, M, rfl, om, hpm, hb9⟩; obtain ⟨m, rfl⟩ : ∃ m, M = [m] := (by have hl := hpm.len; simp only [insP, List.length_cons, List.length_nil] at hl; exact List.length_eq_one_iff.1 hl); obtain ⟨⟨hmn, hmr, oms⟩, -⟩ := hpm; obtain ⟨a9, c9, rfl⟩ := om.rd.shape; obtain ⟨gl, rfl, hgl, -, -⟩ := om.block (by simp); obtain ⟨-, -, l2⟩ := om.cellsAt (j := 0) (by simp); obtain ⟨mn, mr, ms⟩ := m; simp only [List.getD_cons_zero, Nat.zero_mul, Nat.zero_add] at l2 oms; obtain ⟨a10, c10, rfl⟩ := oms.shape; obtain ⟨gm, rfl, hgm, hcm, -⟩ := oms.cells HP3.out; obtain ⟨q0, q1⟩ := hcm 0 HP3.out; have cv9 := oms.rd.conv; have cv8 := (O8.out.below hb9).rd.conv; rw [HSD.out] at cv8 cv9; have HGM := Lib.hid hgm; have C9 := Lib.hid hb9; clear om oms hb9 hgm hcm hmn hmr hgl O8))
  clear cv8 cv9
  go_upto_region 19 with (fail)
  refine wp_genW (fun w10 => ArAt w3.heap.size (w.heap.size + 1) w.heap.size 3 (1 + 1) (insP ⟨1, 1, D⟩ []) w10 ∧ Below w.heap.size w w10) ?_ ?_
  · exact ⟨A8.out.below (bset C9.out gm 0 _ HGM.out), bgo B8.out (bset C9.out gm 0 _ HGM.out)⟩
  rintro w10 ⟨a10, b10⟩
  have A10 := Lib.hid a10
  have B10 := Lib.hid b10
  clear a10 b10 q0 q1 l2 A8 B8 HGM C9 A7 B7
  go_wp2_with (first
    | (go_at_call 15; refine (data_some A10.out 1 hK (p := ⟨1, 1, D⟩) rfl HDl.out).mono ?_; rintro e w11 ⟨v11, rfl, o11, hb11⟩; have cv11 := o11.rd.conv; rw [HSD.out] at cv11; obtain ⟨a11, c11, rfl⟩ := o11.shape; have B11 := Lib.hid (bgo B10.out hb11); clear o11 hb11)
    | (go_at_call 20; refine (known15_any _).mono ?_; rintro e w12 ⟨rfl, b12⟩; have B12 := Lib.hid (bgo B11.out b12); clear b12))
  go_ret
  exact ⟨rfl, B12.out⟩
end Go.Proofs.Ytmnahnmkffndlaa
