/- RFIns, RRVal, RRkI, SameL: in one text. -/
import Derived.Test.YtjibbnknliamkaaGreatDoorPg22
import Derived.Test.YtjibbnknliamkaaGreatDoorPg03
import Derived.Test.YtjibbnknliamkaaGreatDoorPg12
import Derived.Test.YtjibbnknliamkaaGreatDoorPg11
import Derived.Test.YtjibbnknliamkaaGreatDoorPg00
import Derived.Test.YtjibbnknliamkaaGreatDoorPg01
import Derived.Test.YtjibbnknliamkaaGreatDoorProg
import Derived.Test.YtjibbnknliamkaaGreatDoorPg04
import Derived.Test.YtjibbnknliamkaaGreatDoorPg08
import Derived.WalkKit
import Derived.Lib.Hide
import Derived.ProofKit
import Derived.Handy
import Derived.Shelf.Small.Bits
import Derived.Shelf.Strconv.Itoa0
import Derived.Shelf.Bits.Mul64
import Derived.Shelf.Spec.TrailingZeros
import Derived.Lib.TrailingZeros
import Derived.Deep.RegionHeld3
namespace Go.Proofs.YtjibbnknliamkaaGreatDoor
open Go.RowKit
set_option linter.unusedVariables false
set_option linter.unusedSimpArgs false
theorem rnewQ_any (S : Int) (w : World) (S0 : -9223372036854775808 ≤ S) (S1 : S ≤ 9223372036854775807) :
    Calls Tryz.prog 52 #[.int .i64 S] w fun e w' => ∃ v, e = .returned (.tuple #[v, .int .i64 (newQE S)]) ∧ OwnQ w.heap.size (newQ S) v w' ∧ Below w.heap.size w w' := by
  have hz := fun w => within_any S 1 32 w
  unfold newQE newQ
  by_cases hs : S < 1 ∨ 32 < S
  · rw [show (decide (1 ≤ S) && decide (S ≤ 32)) = false by rw [Bool.and_eq_false_iff]; simp; omega] at hz
    rw [if_pos hs, if_pos hs]
    clear hs
    go_enter Tryz.func52, Tryz.ntmps52
    go_wp2_with (go_at_call 87; refine (hz _).mono ?_; rintro e w' ⟨rfl, rfl⟩)
    refine bodyPost_ret (v := .tuple #[.agg #[.int .i64 0, .int .i64 0, .int .i64 0, .slice none 0 0, .bool false], .int .i64 5]) (by simp [results, Tryz.results52, go_sem, *]) rfl ⟨_, rfl, ⟨none, 0, 0, rfl, OwnE.empty _ _⟩, b1 _⟩
  · rw [show (decide (1 ≤ S) && decide (S ≤ 32)) = true by simp; omega] at hz
    rw [if_neg hs, if_neg hs]
    clear hs
    go_enter Tryz.func52, Tryz.ntmps52
    go_wp2_with (go_at_call 87; refine (hz _).mono ?_; rintro e w' ⟨rfl, rfl⟩)
    refine bodyPost_ret (v := .tuple #[.agg #[.int .i64 S, .int .i64 0, .int .i64 0, .slice none 0 0, .bool false], .int .i64 0]) (by simp [results, Tryz.results52, go_sem, *]) rfl ⟨_, rfl, ⟨none, 0, 0, rfl, OwnE.empty _ _⟩, b1 _⟩
set_option maxRecDepth 100000 in
set_option maxHeartbeats 8000000 in
theorem rinsQ_any (t : FQ) (k : ByteArray) (x : Int) (v : Value) (w : World) (hv : RdQ t v w) (wt : WfQ t) (x0 : -9223372036854775808 ≤ x) (x1 : x ≤ 9223372036854775807) (hk : k.size ≤ maxLen) (hn : t.L.length ≤ 549755813888) :
    Calls Tryz.prog 60 #[v, .agg #[.string k, .int .i64 x]] w fun e w' =>
      ∃ u, e = .returned (.tuple #[u, .int .i64 (insQE t k x)]) ∧ OwnQ w.heap.size (insQ t k x) u w' ∧ Below w.heap.size w w' := by
  obtain ⟨S, T, K, L, s⟩ := t
  obtain ⟨aA, nA, cA, rfl, hr⟩ := hv
  dsimp only at hr hn
  obtain ⟨a', cap', he⟩ := hr.shape
  simp only [Value.slice.injEq] at he
  obtain ⟨rfl, rfl, rfl⟩ := he
  have HR := Lib.hid hr
  have HV := Lib.hid (fun (w' : World) (hb : Below w.heap.size w w') => rvalQ_any S T K L s aA L.length cA w' (hr.below hb) (by omega))
  have hit := fun w => ritem_any k x w hk x0 x1
  have M0 := Lib.hid (MI.new w ⟨S, T, K, L, s⟩ (.slice aA L.length cA) k x)
  have hy := hr.1
  clear hr
  unfold insQ insQE
  dsimp only
  by_cases hE : valQ S T K L = 0
  · rw [hE] at HV
    rw [if_neg (by simpa using hE)]
    by_cases hF : itemE (byt k) x = 0
    · have hval := valQ_ok hE
      have hi := itemQ hF
      rw [hF] at hit ⊢
      rw [if_neg (by decide)]
      have hsm := hval.small
      have HRH := Lib.hid (fun j hj hs => insQ_has (s := s) (k := k) hval hi.2.1 (j := j) hj hs)
      have HRR := Lib.hid (fun h1 h2 => insQ_room (s := s) (k := k) hval hi.2.1 h1 h2)
      have HRF := Lib.hid (fun h1 h2 => insQ_full (s := s) (k := k) hval hi.2.1 h1 h2)
      generalize sumQ ⟨S, T, K, L, s⟩ (oneQ S k x) = R at *
      have HSUM := Lib.hid (fun w => rsumQ_any T x w wt.2.1.1 wt.2.1.2 x0 x1)
      have HOK : Hid ((⟨k, x, 0⟩ : Ent).ok) := Lib.hid ⟨hk, ⟨x0, x1⟩, by show (-9223372036854775808 : Int) ≤ 0; decide, by show (0 : Int) ≤ 9223372036854775807; decide⟩
      have hK0 := hval.k0
      have hK1 := hval.k1
      have hS0 := hval.s0
      have hS1 := hval.s1
      have HNN := Lib.hid hval.nn
      clear hval hE hF hn wt
      go_enter Tryz.func60, Tryz.ntmps60
      go_upto_region 7 with (first
        | (go_at_call 78; refine (HV.out _ M0.out.2.2.2).mono ?_; rintro e w2 ⟨rfl, hb2⟩; have M2 := Lib.hid (M0.out.go hb2); obtain ⟨⟨p0, p1, p2, p3, p4⟩, ⟨i0, i1⟩, ⟨o0, o1, o2, o3, o4⟩, y0, y1, y2, y3, y4⟩ := M2.out.cells; clear hb2)
        | (go_at_call 54; refine (hit _).mono ?_; rintro e w3 ⟨rfl, hb3⟩; have M3 := Lib.hid (M2.out.go hb3); clear p0 p1 p2 p3 p4 i0 i1 o0 o1 o2 o3 o4 y0 y1 y2 y3 y4; obtain ⟨⟨p0, p1, p2, p3, p4⟩, ⟨i0, i1⟩, ⟨o0, o1, o2, o3, o4⟩, y0, y1, y2, y3, y4⟩ := M3.out.cells; clear hb3))
      have HLW : Hid (w.heap.size + 1 + 1 < w3.heap.size) := Lib.hid M3.out.lt
      have HW3 : Hid (w.heap.size + 3 ≤ w3.heap.size) := Lib.hid (by have := M3.out.lt; omega)
      have HSR : Hid (∀ w' : World, Below w3.heap.size w3 w' → FromE L 39 (.slice aA L.length cA) w') := Lib.hid (fun w' hb => ((HR.out.below M3.out.2.2.2).below hb).src)
      have HLL : Hid (L.length ≤ 32) := Lib.hid hsm
      clear HV hit M0
      have HZ : Hid (∀ w' : World, Below (w3.heap.size + 1) (w3.alloc (.cells #[.int .i64 0, .int .i64 0, .int .i64 0, .slice none 0 0, .bool false] 43)) w' → TQ w3.heap.size 0 0 0 (.slice none 0 0) false w' ∧ Below w3.heap.size w3 w') := Lib.hid (fun w' hb => ⟨(TQ.new 0 0 0 (.slice none 0 0) false w3).keep (hb.block _ (Nat.lt_succ_self _)), (b1 _).trans (hb.mono (Nat.le_succ _))⟩)
      have MA := Lib.hid (M3.out.go (b1 (.cells #[.int .i64 0, .int .i64 0, .int .i64 0, .slice none 0 0, .bool false] 43)))
      obtain ⟨⟨pa0, pa1, pa2, pa3, pa4⟩, -⟩ := MA.out.cells
      refine wp_meetX 8 26 10 (fun v wx => ∃ (g : Nat) (a4 : Option Addr) (cap4 : Nat), v = .pointer (some ⟨g, 0, none⟩) ∧ Hid (RQ w3.heap.size g ⟨S, 0, K, L, s⟩ (.slice a4 L.length cap4) wx ∧ MI w ⟨S, T, K, L, s⟩ (.slice aA L.length cA) k x wx)) ?_ ?_
      · intro G hG
        have HPUT := Lib.hid (fun (o : Nat) (u : Value) (w' : World) (h : MI w ⟨S, T, K, L, s⟩ (.slice aA L.length cA) k x w') => h.keep (bsetB (Below.refl _ _) w3.heap.size o u HW3.out))
        go_region_held3 (fun w' => w'.cell? ⟨w.heap.size, 0, none⟩ = some (.int .i64 S) ∧ w'.cell? ⟨w.heap.size, 1, none⟩ = some (.int .i64 T) ∧ w'.cell? ⟨w.heap.size, 2, none⟩ = some (.int .i64 K) ∧ w'.cell? ⟨w.heap.size, 3, none⟩ = some (.slice aA L.length cA) ∧ w'.cell? ⟨w.heap.size, 4, none⟩ = some (.bool s)) (first | (with_reducible assumption) | ((try dsimp only); with_reducible refine MI.c5 (a := ⟨S, T, K, L, s⟩) (x := x) (k := k) ?_; repeat (first | with_reducible exact M4.out | with_reducible exact M3.out | with_reducible refine MI.drew ?_ | with_reducible refine MI.al ?_ _ | with_reducible refine HPUT.out _ _ _ ?_))) (first
          | (refine step_appE rfl _ _ _ rfl (w3.heap.size + 1) [] L _ _ rfl rfl (OwnE.empty _ _) (HSR.out _ (by first | exact Below.refl _ _ | exact (Below.refl _ _).drew | exact b1 _ | exact (b1 _).drew | exact (Below.refl _ _).drew.trans (b1 _))) ?_ ?_ ?_; (with_reducible_and_instances first | exact allocQ_size _ _ | exact allocQ_size2 _ _); (have := HLL.out; simp; omega); intro v4 w4 ho4 hb4; rw [List.nil_append] at ho4; obtain ⟨a4, cap4, rfl⟩ := ho4.rd.shape; have HO4 := Lib.hid ho4; have HZ4 := Lib.hid (HZ.out w4 (by first | exact hb4 | exact (Below.refl _ _).drew.trans hb4)); obtain ⟨⟨z0, z1, z2, z3, z4⟩, x0', x1', x2', x3', x4'⟩ := HZ4.out.1.cells; have M4 := Lib.hid (M3.out.keep (HZ4.out.2.mono HW3.out)); obtain ⟨⟨pb0, pb1, pb2, pb3, pb4⟩, -⟩ := M4.out.cells; clear ho4 hb4)
          | (refine step_appE rfl _ _ _ rfl w3.heap.size [] L _ _ rfl rfl (OwnE.empty _ _) (HSR.out _ (by first | exact Below.refl _ _ | exact (Below.refl _ _).drew | exact b1 _ | exact (b1 _).drew | exact (Below.refl _ _).drew.trans (b1 _))) ?_ ?_ ?_; (first | exact Nat.le_refl _ | simp); (have := HLL.out; simp; omega); intro v4 w4 ho4 hb4; rw [List.nil_append] at ho4; obtain ⟨a4, cap4, rfl⟩ := ho4.rd.shape; have HO4 := Lib.hid ho4; have HB4 : Hid (Below w3.heap.size w3 w4) := Lib.hid (by first | exact hb4 | exact (Below.refl _ _).drew.trans hb4); have M4 := Lib.hid (M3.out.keep (HB4.out.mono HW3.out)); obtain ⟨⟨pb0, pb1, pb2, pb3, pb4⟩, -⟩ := M4.out.cells; have MC := Lib.hid (M4.out.go (b1 (.cells #[.int .i64 0, .int .i64 0, .int .i64 0, .slice none 0 0, .bool false] 43))); obtain ⟨⟨pc0, pc1, pc2, pc3, pc4⟩, -⟩ := MC.out.cells; clear ho4 hb4))
        all_goals
          refine hG _ _ _ ⟨[_, _, _, _, _, _, _, _, _, _], rfl, rfl⟩ ?_
          first
            | (with_reducible exact ⟨_, _, _, rfl, Lib.hid ⟨RQ.newA HO4.out HB4.out.size, M4.out.go (b1 _)⟩⟩)
            | (with_reducible exact ⟨_, _, _, rfl, Lib.hid ⟨RQ.newB HZ4.out.1 HO4.out, M4.out.keep (bsetB (bsetB (bsetB (bsetB (bsetB (Below.refl _ _) _ _ _ HW3.out) _ _ _ HW3.out) _ _ _ HW3.out) _ _ _ HW3.out) _ _ _ HW3.out)⟩⟩)
            | (with_reducible exact ⟨_, _, _, rfl, Lib.hid ⟨(RQ.newA HO4.out HB4.out.size).go (Below.refl _ _).drew, (M4.out.go (b1 _)).go (Below.refl _ _).drew⟩⟩)
            | (with_reducible exact ⟨_, _, _, rfl, Lib.hid ⟨(RQ.newB HZ4.out.1 HO4.out).go (Below.refl _ _).drew, (M4.out.keep (bsetB (bsetB (bsetB (bsetB (bsetB (Below.refl _ _) _ _ _ HW3.out) _ _ _ HW3.out) _ _ _ HW3.out) _ _ _ HW3.out) _ _ _ HW3.out)).go (Below.refl _ _).drew⟩⟩)
      clear MA pa0 pa1 pa2 pa3 pa4 HZ HSR p0 p1 p2 p3 p4 i0 i1 o0 o1 o2 o3 o4 y0 y1 y2 y3 y4
      intro aX wX vX hoff hX
      obtain ⟨us, hus, rfl⟩ := hoff
      obtain ⟨g, a4, cap4, rfl, HU⟩ := hX
      match us, hus with
      | [u26, u27, u28, u29, u30, u31, u32, u33, u34, u35], _ =>
        simp only [List.set_cons_succ, List.set_cons_zero, List.take_succ_cons, List.take_zero, List.drop_succ_cons, List.drop_zero, List.cons_append, List.nil_append]
        have HG3 : Hid (w.heap.size + 3 ≤ g) := Lib.hid (Nat.le_trans HW3.out HU.out.1.2.2)
        obtain ⟨⟨p0, p1, p2, p3, p4⟩, ⟨i0, i1⟩, ⟨o0, o1, o2, o3, o4⟩, y0, y1, y2, y3, y4⟩ := HU.out.2.cells
        obtain ⟨⟨q0, q1, q2, q3, q4⟩, r0, r1, r2, r3, r4⟩ := HU.out.1.1.cells
        go_upto_region 9 with (go_at_call 98; refine (HSUM.out _).mono ?_; rintro e w' ⟨rfl, rfl⟩)
        refine wp_meet 44 8 (fun wx => Hid (RQ w3.heap.size g ⟨S, tS T x, K, L, s || tF_2 T x⟩ (.slice a4 L.length cap4) wx ∧ MI w ⟨S, T, K, L, s⟩ (.slice aA L.length cA) k x wx)) ?_ ?_
        · intro G hG
          generalize tS T x = t1 at *
          generalize tF_2 T x = f1 at *
          cases s
          all_goals
            go_wp2
            exact hG _ _ ⟨[_, _, _, _, _, _, _, _], rfl, rfl⟩ (Lib.hid ⟨HU.out.1.setTS _ _, HU.out.2.keep (bsetB (bsetB (Below.refl _ _) _ _ _ HG3.out) _ _ _ HG3.out)⟩)
        clear p0 p1 p2 p3 p4 i0 i1 o0 o1 o2 o3 o4 y0 y1 y2 y3 y4 q0 q1 q2 q3 q4 r0 r1 r2 r3 r4 HU HSUM
        intro aY wY hoff HU
        obtain ⟨us, hus, rfl⟩ := hoff
        match us, hus with
        | [e0, e1, e2, e3, e4, e5, e6, e7], _ =>
          simp only [List.take_succ_cons, List.take_zero, List.drop_succ_cons, List.drop_zero, List.cons_append, List.nil_append]
          obtain ⟨⟨p0, p1, p2, p3, p4⟩, ⟨i0, i1⟩, ⟨o0, o1, o2, o3, o4⟩, y0, y1, y2, y3, y4⟩ := HU.out.2.cells
          obtain ⟨⟨q0, q1, q2, q3, q4⟩, r0, r1, r2, r3, r4⟩ := HU.out.1.1.cells
          have HFD := Lib.hid (rfind_any L k a4 L.length cap4 wY HU.out.1.2.1.rd (by have := HLL.out; omega))
          cases hH : hasK L k with
          | true =>
            obtain ⟨j, hj, hfj, hsj⟩ : ∃ j : Nat, j < L.length ∧ findI L k = (j : Int) ∧ sameK (L.getD j Ent.z).k k = true := by
              rcases findI_cases L k with ⟨_, j, h1, h2, h3⟩ | ⟨h, _⟩
              · exact ⟨j, h1, h2, h3⟩
              · rw [hH] at h; cases h
            rw [hfj] at HFD
            have HEQ := Lib.hid (HRH.out j hj hsj)
            obtain ⟨ge, rfl, hge, hgl, -, -, -⟩ := HU.out.1.2.1.block (by show 0 < L.length; omega)
            have hga : ¬ ge = g := fun e => HU.out.1.1.apart HU.out.1.2.1 (by rw [e]; rfl)
            have hga' : ¬ g = ge := fun e => hga e.symm
            obtain ⟨c0, c1, c2⟩ := HU.out.1.2.1.cellsAt hj
            have hfz := HU.out.1.2.1.frozen (j * 3 + 1)
            have hY := hy.at_ j
            have hta := tS_bd (L.getD j Ent.z).c x
            have HST := Lib.hid (fun (w' : World) (r : Bool) (h : RQ w3.heap.size g ⟨S, tS T x, K, L, s || tF_2 T x⟩ (.slice (some ⟨ge, 0, none⟩) L.length cap4) w') => h.setC hj (c := tS (L.getD j Ent.z).c x) ⟨by omega, by omega⟩ r)
            have HGE : Hid (w.heap.size + 3 ≤ ge) := Lib.hid (Nat.le_trans HW3.out hge)
            have HS2 := Lib.hid (fun w => rsumQ_any (L.getD j Ent.z).c x w hY.2.1.1 hY.2.1.2 x0 x1)
            dsimp only at c0 c1 c2
            generalize L.getD j Ent.z = Y at *
            generalize tS T x = t1 at *
            generalize (s || tF_2 T x) = q at *
            have hj2 : (j : Int) < (L.length : Int) := by omega
            clear hfj hH hsj hY hta HRR HRF HRH
            generalize tS Y.c x = t2 at *
            generalize tF_2 Y.c x = f2 at *
            cases q
            · go_wp2_with (go_at_call 83; refine HFD.out.mono ?_; rintro e w' ⟨rfl, rfl⟩)
              go_quiet ((go_at_call 98; exact quiet_left (HS2.out _)))
              go_wp2
              go_big_region
              generalize hw7 : ((wY.drewN (nq + 1)).setCell ⟨ge, j * 3 + 1, none⟩ (.int .i64 t2)).setCell ⟨g, 4, none⟩ (.bool f2) = w7
              have HX : Hid (RQ w3.heap.size g ⟨S, t1, K, L.set j ⟨Y.k, t2, Y.e⟩, f2⟩ (.slice (some ⟨ge, 0, none⟩) L.length cap4) w7 ∧ MI w ⟨S, T, K, L, s⟩ (.slice aA L.length cA) k x w7) := Lib.hid (by
                rw [← hw7]
                exact ⟨HST.out _ _ (HU.out.1.go (below_drewN (Below.refl _ _) (nq + 1))), HU.out.2.keep (bsetB (bsetB (below_drewN (Below.refl _ _) (nq + 1)) _ _ _ HGE.out) _ _ _ HG3.out)⟩)
              clear hw7 HST p0 p1 p2 p3 p4 i0 i1 o0 o1 o2 o3 o4 y0 y1 y2 y3 y4 q0 q1 q2 q3 q4 r0 r1 r2 r3 r4 c0 c1 c2 hfz
              obtain ⟨⟨p0, p1, p2, p3, p4⟩, ⟨i0, i1⟩, ⟨o0, o1, o2, o3, o4⟩, y0, y1, y2, y3, y4⟩ := HX.out.2.cells
              obtain ⟨⟨q0, q1, q2, q3, q4⟩, r0, r1, r2, r3, r4⟩ := HX.out.1.1.cells
              go_wp2
              refine bodyPost_ret (v := .tuple #[.agg #[.int .i64 S, .int .i64 t1, .int .i64 K, .slice (some ⟨ge, 0, none⟩) L.length cap4, .bool f2], .int .i64 0]) (by simp [results, Tryz.results60, go_sem, *]) rfl ⟨_, rfl, ?_, ?_⟩
              · rw [HEQ.out]
                have l4 : w.heap.size + 1 + 1 < w3.heap.size := HLW.out
                refine ⟨(some ⟨ge, 0, none⟩), L.length, cap4, rfl, OwnE.mono (B := w3.heap.size) ?_ (by omega)⟩
                exact ((((HX.out.1.2.1.keep l4 _ _).keep l4 _ _).keep l4 _ _).keep l4 _ _).keep l4 _ _
              · have l3 : w.heap.size ≤ w.heap.size + 1 + 1 := by omega
                exact bsetB (bsetB (bsetB (bsetB (bsetB HX.out.2.2.2.2 _ _ _ l3) _ _ _ l3) _ _ _ l3) _ _ _ l3) _ _ _ l3
            · go_wp2_with (go_at_call 83; refine HFD.out.mono ?_; rintro e w' ⟨rfl, rfl⟩)
              go_quiet ((go_at_call 98; exact quiet_left (HS2.out _)))
              go_wp2
              go_big_region
              generalize hw7 : ((wY.drewN (nq + 1)).setCell ⟨ge, j * 3 + 1, none⟩ (.int .i64 t2)).setCell ⟨g, 4, none⟩ (.bool true) = w7
              have HX : Hid (RQ w3.heap.size g ⟨S, t1, K, L.set j ⟨Y.k, t2, Y.e⟩, true⟩ (.slice (some ⟨ge, 0, none⟩) L.length cap4) w7 ∧ MI w ⟨S, T, K, L, s⟩ (.slice aA L.length cA) k x w7) := Lib.hid (by
                rw [← hw7]
                exact ⟨HST.out _ _ (HU.out.1.go (below_drewN (Below.refl _ _) (nq + 1))), HU.out.2.keep (bsetB (bsetB (below_drewN (Below.refl _ _) (nq + 1)) _ _ _ HGE.out) _ _ _ HG3.out)⟩)
              clear hw7 HST p0 p1 p2 p3 p4 i0 i1 o0 o1 o2 o3 o4 y0 y1 y2 y3 y4 q0 q1 q2 q3 q4 r0 r1 r2 r3 r4 c0 c1 c2 hfz
              obtain ⟨⟨p0, p1, p2, p3, p4⟩, ⟨i0, i1⟩, ⟨o0, o1, o2, o3, o4⟩, y0, y1, y2, y3, y4⟩ := HX.out.2.cells
              obtain ⟨⟨q0, q1, q2, q3, q4⟩, r0, r1, r2, r3, r4⟩ := HX.out.1.1.cells
              go_wp2
              refine bodyPost_ret (v := .tuple #[.agg #[.int .i64 S, .int .i64 t1, .int .i64 K, .slice (some ⟨ge, 0, none⟩) L.length cap4, .bool true], .int .i64 0]) (by simp [results, Tryz.results60, go_sem, *]) rfl ⟨_, rfl, ?_, ?_⟩
              · rw [HEQ.out]
                have l4 : w.heap.size + 1 + 1 < w3.heap.size := HLW.out
                refine ⟨(some ⟨ge, 0, none⟩), L.length, cap4, rfl, OwnE.mono (B := w3.heap.size) ?_ (by omega)⟩
                exact ((((HX.out.1.2.1.keep l4 _ _).keep l4 _ _).keep l4 _ _).keep l4 _ _).keep l4 _ _
              · have l3 : w.heap.size ≤ w.heap.size + 1 + 1 := by omega
                exact bsetB (bsetB (bsetB (bsetB (bsetB HX.out.2.2.2.2 _ _ _ l3) _ _ _ l3) _ _ _ l3) _ _ _ l3) _ _ _ l3
          | false =>
            have hfd : findI L k = -1 := by
              rcases findI_cases L k with ⟨h, _⟩ | ⟨_, h⟩
              · rw [hH] at h; cases h
              · exact h
            rw [hfd] at HFD
            have hll := HLL.out
            by_cases hro : (L.length : Int) < S
            · have HEQ := Lib.hid (HRR.out hH hro)
              have HBK := Lib.hid (fun (v' : Value) (w' : World) (h : RdE L v' w') => byKey_any ⟨k, x, 0⟩ L v' w' h HOK.out (by omega))
              have HRD := Lib.hid HU.out.1.2.1.rd
              have HSE := Lib.hid (fun (M : List Ent) (u v' : Value) (w' : World) (h : RQ w3.heap.size g ⟨S, tS T x, K, L, s || tF_2 T x⟩ v' w') (ho : OwnE w3.heap.size M u w') => h.setE ho)
              clear hfd hH HRR HRF HRH
              generalize tS T x = t1 at *
              generalize (s || tF_2 T x) = q at *
              go_wp2_with (first
                | (go_at_call 83; refine HFD.out.mono ?_; rintro e w' ⟨rfl, rfl⟩)
                | (go_at_call 99; refine (HBK.out _ _ HRD.out).mono ?_; rintro e w6 ⟨u6, rfl, ho6, hb6⟩; obtain ⟨a6, cap6, rfl⟩ := ho6.rd.shape; have HY := Lib.hid (HSE.out _ _ _ _ (HU.out.1.go hb6) (ho6.mono HU.out.1.size)); have HM := Lib.hid ((HU.out.2.go hb6).keep (bsetB (Below.refl _ _) g 3 (.slice a6 (insL ⟨k, x, 0⟩ L).length cap6) HG3.out)); have H6 := Lib.hid (HU.out.1.go hb6); clear p0 p1 p2 p3 p4 i0 i1 o0 o1 o2 o3 o4 y0 y1 y2 y3 y4 q0 q1 q2 q3 q4 r0 r1 r2 r3 r4 HBK HRD HSE ho6 hb6; obtain ⟨⟨q0, q1, q2, q3, q4⟩, r0, r1, r2, r3, r4⟩ := H6.out.1.cells; obtain ⟨⟨sq0, sq1, sq2, sq3, sq4⟩, sr0, sr1, sr2, sr3, sr4⟩ := HY.out.1.cells; obtain ⟨-, -, ⟨o0, o1, o2, o3, o4⟩, y0, y1, y2, y3, y4⟩ := HM.out.cells))
              refine bodyPost_ret (v := .tuple #[.agg #[.int .i64 S, .int .i64 t1, .int .i64 K, .slice a6 (insL ⟨k, x, 0⟩ L).length cap6, .bool q], .int .i64 0]) (by simp [results, Tryz.results60, go_sem, *]) rfl ⟨_, rfl, ?_, ?_⟩
              · rw [HEQ.out]
                have l4 : w.heap.size + 1 + 1 < w3.heap.size := HLW.out
                refine ⟨a6, (insL ⟨k, x, 0⟩ L).length, cap6, rfl, OwnE.mono (B := w3.heap.size) ?_ (by omega)⟩
                exact ((((HY.out.2.1.keep l4 _ _).keep l4 _ _).keep l4 _ _).keep l4 _ _).keep l4 _ _
              · have l3 : w.heap.size ≤ w.heap.size + 1 + 1 := by omega
                exact bsetB (bsetB (bsetB (bsetB (bsetB HM.out.2.2.2 _ _ _ l3) _ _ _ l3) _ _ _ l3) _ _ _ l3) _ _ _ l3
            · have HEQ := Lib.hid (HRF.out hH (by omega))
              have hmc := minC_le L x
              have HRD := Lib.hid HU.out.1.2.1.rd
              have hd0 : 0 ≤ minC x L := by
                rcases hmc.2.2 with h | ⟨y, hy, h⟩
                · rw [h]; omega
                · rw [h]; exact HNN.out y hy
              have hd1 : minC x L ≤ x := hmc.1
              have HSE := Lib.hid (fun (M : List Ent) (u v' : Value) (w' : World) (h : RQ w3.heap.size g ⟨S, tS T x, K, L, s || tF_2 T x⟩ v' w') (ho : OwnE w3.heap.size M u w') => h.setE ho)
              clear hmc hfd hH HRR HRF HRH HNN
              generalize tS T x = t1 at *
              generalize (s || tF_2 T x) = q at *
              have hro2 : ¬ (L.length : Int) < S := hro
              go_wp2_with (go_at_call 83; refine HFD.out.mono ?_; rintro e w' ⟨rfl, rfl⟩)
              clear hro2
              go_loopw [12, 13] (fun d i wr => ∃ j : Nat, j ≤ L.length ∧ i = .int .i64 (j : Int) ∧ d = .int .i64 (minC x (L.take j)) ∧ wY = wr) (fun _ i _ => L.length - (intOf i).toNat)
              case atStart => exact ⟨0, by omega, rfl, rfl, rfl⟩
              case round =>
                obtain ⟨j, hj, rfl, rfl, rfl⟩ := hrel
                by_cases hlt : j < L.length
                · have hlt2 : (j : Int) < (L.length : Int) := by omega
                  obtain ⟨ge, rfl, -, hgl, -, -, -⟩ := HU.out.1.2.1.block (by show 0 < L.length; omega)
                  obtain ⟨c0, c1, c2⟩ := HU.out.1.2.1.cellsAt hlt
                  dsimp only at c0 c1 c2
                  have hms := minC_succ hlt x
                  generalize L.getD j Ent.z = Y at *
                  go_wp2
                  exact ⟨⟨j + 1, by omega, by go_num, by rw [hms], trivial⟩, by simp [intOf]; omega⟩
                · obtain rfl : j = L.length := by omega
                  rw [List.take_length]
                  have HRL := Lib.hid (fun (v' : Value) (w' : World) (h : RdE L v' w') => rlowQ_any L (minC x L) v' w' h (by omega) hd0)
                  generalize minC x L = d at *
                  have HS2 := Lib.hid (fun w => rsumQ_any K d w (by omega) (by omega) (by omega) (by omega))
                  have HEK : Hid ((⟨k, x - d, 0⟩ : Ent).ok) := Lib.hid ⟨hk, by dsimp only; omega, by dsimp only; omega⟩
                  have HLD : Hid ((lowL_2 L d).length ≤ 32) := Lib.hid (Nat.le_trans (lowL_len L d) HLL.out)
                  generalize lowL_2 L d = D at *
                  have hnl : ¬ (L.length : Int) < (L.length : Int) := by omega
                  generalize tS K d = k2 at *
                  generalize tF_2 K d = f2 at *
                  go_upto_region 18 with (first
                    | (go_at_call 100; refine (HRL.out _ _ HRD.out).mono ?_; rintro e w6 ⟨u6, rfl, ho6, hb6⟩; obtain ⟨a6, cap6, rfl⟩ := ho6.rd.shape; have HY := Lib.hid (HSE.out _ _ _ _ (HU.out.1.go hb6) (ho6.mono HU.out.1.size)); have HM := Lib.hid ((HU.out.2.go hb6).keep (bsetB (Below.refl _ _) g 3 (.slice a6 D.length cap6) HG3.out)); have H6 := Lib.hid (HU.out.1.go hb6); clear p0 p1 p2 p3 p4 i0 i1 o0 o1 o2 o3 o4 y0 y1 y2 y3 y4 q0 q1 q2 q3 q4 r0 r1 r2 r3 r4 HRL HRD HSE ho6 hb6; obtain ⟨⟨q0, q1, q2, q3, q4⟩, r0, r1, r2, r3, r4⟩ := H6.out.1.cells; obtain ⟨⟨sq0, sq1, sq2, sq3, sq4⟩, sr0, sr1, sr2, sr3, sr4⟩ := HY.out.1.cells)
                    | (go_at_call 98; refine (HS2.out _).mono ?_; rintro e w' ⟨rfl, rfl⟩))
                  generalize w6.setCell ⟨g, 3, none⟩ (.slice a6 D.length cap6) = w7 at *
                  clear q0 q1 q2 q3 q4 r0 r1 r2 r3 r4 H6
                  refine wp_meet 86 8 (fun wx => Hid (RQ w3.heap.size g ⟨S, t1, k2, D, q || f2⟩ (.slice a6 D.length cap6) wx ∧ MI w ⟨S, T, K, L, s⟩ (.slice aA L.length cA) k x wx)) ?_ ?_
                  · intro G hG
                    cases q
                    all_goals
                      go_wp2
                      exact hG _ _ ⟨[_, _, _, _, _, _, _, _], rfl, rfl⟩ (Lib.hid ⟨HY.out.setKS _ _, HM.out.keep (bsetB (bsetB (Below.refl _ _) _ _ _ HG3.out) _ _ _ HG3.out)⟩)
                  clear sq0 sq1 sq2 sq3 sq4 sr0 sr1 sr2 sr3 sr4 HY HM
                  intro aZ wZ hoff HV
                  obtain ⟨us, hus, rfl⟩ := hoff
                  match us, hus with
                  | [v0, v1, v2, v3, v4, v5, v6, v7], _ =>
                    simp only [List.take_succ_cons, List.take_zero, List.drop_succ_cons, List.drop_zero, List.cons_append, List.nil_append]
                    obtain ⟨⟨p0, p1, p2, p3, p4⟩, ⟨i0, i1⟩, ⟨o0, o1, o2, o3, o4⟩, y0, y1, y2, y3, y4⟩ := HV.out.2.cells
                    obtain ⟨⟨q0, q1, q2, q3, q4⟩, r0, r1, r2, r3, r4⟩ := HV.out.1.1.cells
                    generalize (q || f2) = qq at *
                    by_cases hdx : d < x
                    · have q7 : wrap64 (x - d) = x - d := by unfold wrap64; omega
                      have q8 : IntKind.i64.wrap (x - d) = x - d := by rw [IntKind.wrap_i64]; omega
                      have HEQ2 := HEQ.out
                      rw [if_pos hdx] at HEQ2
                      have HEQ := Lib.hid HEQ2
                      have HBK := Lib.hid (fun (v' : Value) (w' : World) (h : RdE D v' w') => byKey_any ⟨k, x - d, 0⟩ D v' w' h HEK.out (by have := HLD.out; omega))
                      have HRD := Lib.hid HV.out.1.2.1.rd
                      have HSE := Lib.hid (fun (M : List Ent) (u v' : Value) (w' : World) (h : RQ w3.heap.size g ⟨S, t1, k2, D, qq⟩ v' w') (ho : OwnE w3.heap.size M u w') => h.setE ho)
                      clear HEQ2
                      go_wp2_with (go_at_call 99; refine (HBK.out _ _ HRD.out).mono ?_; rintro e w8 ⟨u8, rfl, ho8, hb8⟩; obtain ⟨a8, cap8, rfl⟩ := ho8.rd.shape; have HY := Lib.hid (HSE.out _ _ _ _ (HV.out.1.go hb8) (ho8.mono HV.out.1.size)); have HM := Lib.hid ((HV.out.2.go hb8).keep (bsetB (Below.refl _ _) g 3 (.slice a8 (insL ⟨k, x - d, 0⟩ D).length cap8) HG3.out)); have H8 := Lib.hid (HV.out.1.go hb8); clear p0 p1 p2 p3 p4 i0 i1 o0 o1 o2 o3 o4 y0 y1 y2 y3 y4 q0 q1 q2 q3 q4 r0 r1 r2 r3 r4 HBK HRD HSE ho8 hb8; obtain ⟨⟨q0, q1, q2, q3, q4⟩, r0, r1, r2, r3, r4⟩ := H8.out.1.cells; obtain ⟨⟨sq0, sq1, sq2, sq3, sq4⟩, sr0, sr1, sr2, sr3, sr4⟩ := HY.out.1.cells; obtain ⟨-, -, ⟨o0, o1, o2, o3, o4⟩, y0, y1, y2, y3, y4⟩ := HM.out.cells)
                      refine bodyPost_ret (v := .tuple #[.agg #[.int .i64 S, .int .i64 t1, .int .i64 k2, .slice a8 (insL ⟨k, x - d, 0⟩ D).length cap8, .bool qq], .int .i64 0]) (by simp [results, Tryz.results60, go_sem, *]) rfl ⟨_, rfl, ?_, ?_⟩
                      · rw [HEQ.out]
                        have l4 : w.heap.size + 1 + 1 < w3.heap.size := HLW.out
                        refine ⟨a8, (insL ⟨k, x - d, 0⟩ D).length, cap8, rfl, OwnE.mono (B := w3.heap.size) ?_ (by omega)⟩
                        exact ((((HY.out.2.1.keep l4 _ _).keep l4 _ _).keep l4 _ _).keep l4 _ _).keep l4 _ _
                      · have l3 : w.heap.size ≤ w.heap.size + 1 + 1 := by omega
                        exact bsetB (bsetB (bsetB (bsetB (bsetB HM.out.2.2.2 _ _ _ l3) _ _ _ l3) _ _ _ l3) _ _ _ l3) _ _ _ l3
                    · have HEQ2 := HEQ.out
                      rw [if_neg hdx] at HEQ2
                      have HEQ := Lib.hid HEQ2
                      clear HEQ2
                      go_wp2
                      refine bodyPost_ret (v := .tuple #[.agg #[.int .i64 S, .int .i64 t1, .int .i64 k2, .slice a6 D.length cap6, .bool qq], .int .i64 0]) (by simp [results, Tryz.results60, go_sem, *]) rfl ⟨_, rfl, ?_, ?_⟩
                      · rw [HEQ.out]
                        have l4 : w.heap.size + 1 + 1 < w3.heap.size := HLW.out
                        refine ⟨a6, D.length, cap6, rfl, OwnE.mono (B := w3.heap.size) ?_ (by omega)⟩
                        exact ((((HV.out.1.2.1.keep l4 _ _).keep l4 _ _).keep l4 _ _).keep l4 _ _).keep l4 _ _
                      · have l3 : w.heap.size ≤ w.heap.size + 1 + 1 := by omega
                        exact bsetB (bsetB (bsetB (bsetB (bsetB HV.out.2.2.2.2 _ _ _ l3) _ _ _ l3) _ _ _ l3) _ _ _ l3) _ _ _ l3
    · have hF2 : (itemE (byt k) x != 0) = true := by simpa using hF
      rw [if_pos hF]
      clear hF
      go_enter Tryz.func60, Tryz.ntmps60
      go_wp2_with (first
        | (go_at_call 78; refine (HV.out _ M0.out.2.2.2).mono ?_; rintro e w2 ⟨rfl, hb2⟩; have M2 := Lib.hid (M0.out.go hb2); obtain ⟨⟨p0, p1, p2, p3, p4⟩, ⟨i0, i1⟩, ⟨o0, o1, o2, o3, o4⟩, y0, y1, y2, y3, y4⟩ := M2.out.cells; clear hb2)
        | (go_at_call 54; refine (hit _).mono ?_; rintro e w3 ⟨rfl, hb3⟩; have M3 := Lib.hid (M2.out.go hb3); clear p0 p1 p2 p3 p4 i0 i1 o0 o1 o2 o3 o4 y0 y1 y2 y3 y4; obtain ⟨⟨p0, p1, p2, p3, p4⟩, ⟨i0, i1⟩, ⟨o0, o1, o2, o3, o4⟩, y0, y1, y2, y3, y4⟩ := M3.out.cells; clear hb3))
      refine bodyPost_ret (v := .tuple #[.agg #[.int .i64 0, .int .i64 0, .int .i64 0, .slice none 0 0, .bool false], .int .i64 (itemE (byt k) x)]) (by simp [results, Tryz.results60, go_sem, *]) rfl ⟨_, rfl, ⟨none, 0, 0, rfl, OwnE.empty _ _⟩, ?_⟩
      have l3 : w.heap.size ≤ w.heap.size + 1 + 1 := by omega
      exact bsetB (bsetB (bsetB (bsetB (bsetB M3.out.2.2.2 _ _ _ l3) _ _ _ l3) _ _ _ l3) _ _ _ l3) _ _ _ l3
  · have hE2 : (valQ S T K L != 0) = true := by simpa using hE
    rw [if_pos hE, if_pos hE]
    clear hE
    go_enter Tryz.func60, Tryz.ntmps60
    go_wp2_with (go_at_call 78; refine (HV.out _ M0.out.2.2.2).mono ?_; rintro e w2 ⟨rfl, hb2⟩; have M2 := Lib.hid (M0.out.go hb2); obtain ⟨⟨p0, p1, p2, p3, p4⟩, ⟨i0, i1⟩, ⟨o0, o1, o2, o3, o4⟩, y0, y1, y2, y3, y4⟩ := M2.out.cells; clear hb2)
    refine bodyPost_ret (v := .tuple #[.agg #[.int .i64 0, .int .i64 0, .int .i64 0, .slice none 0 0, .bool false], .int .i64 (valQ S T K L)]) (by simp [results, Tryz.results60, go_sem, *]) rfl ⟨_, rfl, ⟨none, 0, 0, rfl, OwnE.empty _ _⟩, ?_⟩
    have l3 : w.heap.size ≤ w.heap.size + 1 + 1 := by omega
    exact bsetB (bsetB (bsetB (bsetB (bsetB M2.out.2.2.2 _ _ _ l3) _ _ _ l3) _ _ _ l3) _ _ _ l3) _ _ _ l3
end Go.Proofs.YtjibbnknliamkaaGreatDoor
namespace Go.Proofs.YtjibbnknliamkaaGreatDoor
open Go.RowKit
set_option linter.unusedVariables false
set_option linter.unusedSimpArgs false
/-- The cell of a key of a level. -/
theorem MR.key {W : World} {g : Nat} {t : RK} {v : Value} {w : World} (h : MR W g t v w) : True := trivial
end Go.Proofs.YtjibbnknliamkaaGreatDoor
namespace Go.Proofs.YtjibbnknliamkaaGreatDoor
open Go.RowKit
set_option linter.unusedVariables false
set_option linter.unusedSimpArgs false
set_option maxRecDepth 100000 in
theorem rnewR_any (S : Int) (w : World) (h0 : -9223372036854775808 ≤ S) (h1 : S ≤ 9223372036854775807) :
    Calls Tryz.prog 53 #[.int .i64 S] w fun e w' => ∃ v, e = .returned (.tuple #[v, .int .i64 (newRE S)]) ∧ RbR w.heap.size (newR S) v w' ∧ Below w.heap.size w w' := by
  have hz := fun w => rwithin_any S 2 32 w
  unfold newRE newR
  by_cases hw : 2 ≤ S ∧ S ≤ 32
  · have hm : Int.tmod S 2 = S % 2 := Int.tmod_eq_emod_of_nonneg (by omega)
    have hi : inW S 2 32 = true := by unfold inW; simp; omega
    rw [hi] at hz
    by_cases he : S % 2 = 0
    · have hs : szR S = true := (szR_iff S).2 ⟨hw.1, hw.2, he⟩
      rw [if_pos hs, if_pos hs]
      have he2 : ¬ S % 2 = 1 := by omega
      clear hs hi
      go_enter Tryz.func53, Tryz.ntmps53
      go_wp2_with (go_at_call 87; refine (hz _).mono ?_; rintro e w' ⟨rfl, rfl⟩)
      refine bodyPost_ret (v := .tuple #[.agg #[.int .i64 S, .int .i64 0, .int .i64 0, .slice none 0 0, .bool false], .int .i64 0]) (by simp [results, Tryz.results53, go_sem, *]) rfl ⟨_, rfl, ⟨none, 0, 0, rfl, RdB.none_ _ _⟩, b1 _⟩
    · have hs : ¬ szR S = true := fun h => he ((szR_iff S).1 h).2.2
      rw [if_neg hs, if_neg hs]
      have he2 : S % 2 = 1 := by omega
      clear hs hi
      go_enter Tryz.func53, Tryz.ntmps53
      go_wp2_with (go_at_call 87; refine (hz _).mono ?_; rintro e w' ⟨rfl, rfl⟩)
      refine bodyPost_ret (v := .tuple #[.agg #[.int .i64 0, .int .i64 0, .int .i64 0, .slice none 0 0, .bool false], .int .i64 5]) (by simp [results, Tryz.results53, go_sem, *]) rfl ⟨_, rfl, ⟨none, 0, 0, rfl, RdB.none_ _ _⟩, b1 _⟩
  · have hs : ¬ szR S = true := fun h => hw ⟨((szR_iff S).1 h).1, ((szR_iff S).1 h).2.1⟩
    have hi : inW S 2 32 = false := by unfold inW; simp; omega
    rw [hi] at hz
    rw [if_neg hs, if_neg hs]
    clear hs hi
    go_enter Tryz.func53, Tryz.ntmps53
    go_wp2_with (go_at_call 87; refine (hz _).mono ?_; rintro e w' ⟨rfl, rfl⟩)
    refine bodyPost_ret (v := .tuple #[.agg #[.int .i64 0, .int .i64 0, .int .i64 0, .slice none 0 0, .bool false], .int .i64 5]) (by simp [results, Tryz.results53, go_sem, *]) rfl ⟨_, rfl, ⟨none, 0, 0, rfl, RdB.none_ _ _⟩, b1 _⟩
section
variable {W : World} {B : Nat} {D : List (List ByteArray)} {us : List Value} {v : Value} {PI : List Int} {vp : Value} {w w' : World}
end
end Go.Proofs.YtjibbnknliamkaaGreatDoor
namespace Go.Proofs.YtjibbnknliamkaaGreatDoor
open Go.RowKit
set_option linter.unusedVariables false
set_option linter.unusedSimpArgs false
set_option maxRecDepth 100000 in
theorem sameL_any (c : LL) (v u : Value) (w : World) (hv : RdL c v w) (hu : RdL c u w) :
    Calls Tryz.prog 123 #[v, u] w fun e w' => e = .returned (.bool true) ∧ Below w.heap.size w w' := by
  obtain ⟨P, x, L⟩ := c
  obtain ⟨a, n, cap, rfl, hR⟩ := hv
  obtain ⟨a2, n2, cap2, rfl, hR2⟩ := hu
  dsimp only at hR hR2 ⊢
  have hs := sameI_any L (.slice a n cap) (.slice a2 n2 cap2) ((w.alloc (.cells #[.int .i64 P, .int .u64 x, .slice a n cap] 38)).alloc (.cells #[.int .i64 P, .int .u64 x, .slice a2 n2 cap2] 38)) (hR.below (b2 _ _)) (hR2.below (b2 _ _))
  clear hR hR2
  go_enter Tryz.func123, Tryz.ntmps123
  go_wp2_with (go_at_call 45; refine hs.mono ?_; rintro e w2 ⟨rfl, hb2⟩; have B2 := Lib.hid (bgo (b2 _ _) hb2); clear hb2)
  go_ret
  exact ⟨rfl, B2.out⟩
end Go.Proofs.YtjibbnknliamkaaGreatDoor
