/- The contract of topk.Insert. -/
import Derived.Test.YtcmekpdgikploaaInsN
namespace Go.Proofs.Ytcmekpdgikploaa
open Go.RowKit
set_option linter.unusedVariables false
set_option linter.unusedSimpArgs false
set_option maxRecDepth 100000 in
set_option maxHeartbeats 4000000 in
theorem pins_any (S T x : Int) (L : List Ent) (s : Bool) (k : ByteArray) (a : Option Addr) (n cap : Nat) (w : World) (S0 : -9223372036854775808 ≤ S) (S1 : S ≤ 9223372036854775807) (T0 : -9223372036854775808 ≤ T) (T1 : T ≤ 9223372036854775807) (x0 : -9223372036854775808 ≤ x) (x1 : x ≤ 9223372036854775807) (hk : k.size ≤ maxLen) (hr : RdE L (.slice a n cap) w) (hn : L.length ≤ 11) :
    Calls Try.prog 12 #[.agg #[.int .i64 S, .int .i64 T, .slice a n cap, .bool s], .agg #[.string k, .int .i64 x]] w fun e w' =>
      ∃ v, e = .returned (.tuple #[v, .int .i64 (insE ⟨S, T, L, s⟩ k x)]) ∧ OwnT w.heap.size (insTop ⟨S, T, L, s⟩ k x) v w' ∧ Below w.heap.size w w' := by
  obtain ⟨a', cap', he⟩ := hr.shape
  simp only [Value.slice.injEq] at he
  obtain ⟨rfl, rfl, rfl⟩ := he
  have hy := hr.1
  have HR := Lib.hid hr
  have HV := Lib.hid (fun (w' : World) (hb : Below w.heap.size w w') => pval_any S T L s a L.length cap w' S0 S1 T0 T1 (hr.below hb) (by omega))
  have HK := Lib.hid hk
  have hit := fun w => item_any k x w hk x0 x1
  have M0 := Lib.hid (Mem3.new w S T (.slice a L.length cap) s k x)
  clear hr hk
  unfold insE insTop
  dsimp only
  by_cases hE : valE S T L = 0
  · have hval := valE_ok hE
    rw [hE] at HV ⊢
    rw [if_neg (by decide), if_neg (by decide)]
    by_cases hF : itemE (byt k) x = 0
    · rw [hF] at hit ⊢
      rw [if_neg (by decide)]
      have hone := hval.one'
      have hsm := hval.small
      cases hH : hasK L k with
      | true =>
        obtain ⟨j, hj, hfj, hsj⟩ : ∃ j : Nat, j < L.length ∧ findI L k = (j : Int) ∧ sameK (L.getD j Ent.z).k k = true := by
          rcases findI_cases L k with ⟨_, j, h1, h2, h3⟩ | ⟨h, _⟩
          · exact ⟨j, h1, h2, h3⟩
          · rw [hH] at h; cases h
        unfold insA insF
        rw [if_pos hH, if_pos hH, hfj, Int.toNat_natCast]
        have HPO := Lib.hid (fun c (h : PosOf L L.length k c) => (PosOf.is h hone hH).1.trans hfj)
        have hz := hasK_take L k
        rw [hH] at hz
        clear hfj hsj hH hE hF hone hval
        go_enter Try.func12, Try.ntmps12
        go_wp2_with (first
          | (go_at_call 17; refine (HV.out _ M0.out.2.2.2).mono ?_; rintro e w2 ⟨rfl, hb2⟩; have M2 := Lib.hid (M0.out.go hb2); obtain ⟨⟨p0, p1, p2, p3⟩, ⟨i0, i1⟩, ⟨o0, o1, o2, o3⟩, g0, g1, g2, g3⟩ := M2.out.cells; clear hb2)
          | (go_at_call 29; refine (hit _).mono ?_; rintro e w3 ⟨rfl, hb3⟩; have M3 := Lib.hid (M2.out.go hb3); clear p0 p1 p2 p3 i0 i1 o0 o1 o2 o3 g0 g1 g2 g3; obtain ⟨⟨p0, p1, p2, p3⟩, ⟨i0, i1⟩, ⟨o0, o1, o2, o3⟩, g0, g1, g2, g3⟩ := M3.out.cells; have MA := Lib.hid (M3.out.go (b1 (.cells #[.bool s] 58))); obtain ⟨⟨pa0, pa1, pa2, pa3⟩, -⟩ := MA.out.cells; clear hb3)
          | (go_at_call 30; refine (cloneE_any L a L.length cap _ (HR.out.below MA.out.2.2.2) (by omega)).mono ?_; rintro e w5 ⟨v5, rfl, ho5, hb5⟩; obtain ⟨a5, cap5, rfl⟩ := ho5.rd.shape; have HO5 : Hid (OwnE (w3.heap.size + 1) L (.slice a5 L.length cap5) w5) := Lib.hid (by simpa using ho5); have M5 := Lib.hid (MA.out.go hb5); have FL5 : Hid (Fl w3.heap.size s w5) := Lib.hid ((show Fl w3.heap.size s (w3.alloc (.cells #[.bool s] 58)) from ⟨by go_simp, by go_simp⟩).keep (hb5.block _ (by simp))); clear p0 p1 p2 p3 i0 i1 o0 o1 o2 o3 g0 g1 g2 g3 pa0 pa1 pa2 pa3 ho5 hb5))
        obtain ⟨⟨p0, p1, p2, p3⟩, ⟨i0, i1⟩, ⟨o0, o1, o2, o3⟩, g0, g1, g2, g3⟩ := M5.out.cells
        have hBd : Below w5.heap.size w5 w5.drew := (Below.refl w5.heap.size w5).drew
        have HRd : Hid (RdE L (.slice a5 L.length cap5) w5.drew) := Lib.hid (show RdE L (.slice a5 L.length cap5) w5.drew from HO5.out.rd)
        have HB5 : Hid (w3.heap.size + 1 ≤ w5.heap.size) := Lib.hid (by have := FL5.out.lt; omega)
        go_region_held3 (fun w' => Below w5.heap.size w5 w' ∧ w'.cell? ⟨w.heap.size + 1, 0, none⟩ = some (.string k)) (go_keep)
          (first | (go_at_call 31; refine (pos_any L a5 L.length cap5 _ HRd.out (by omega)).mono ?_; rintro e w6 ⟨rfl, hp, hb6⟩; have S1 := bgo hBd hb6; obtain ⟨-, ⟨i0, i1⟩, -⟩ := (M5.out.go S1).cells; obtain ⟨c, hc, hl⟩ := run_pos_look hp HK.out; rw [hz] at hl; replace hl : (Instr.lookup 61 (.map (some w5.heap.size)) (.string k) true).run Try.prog w6 = .ok (.tuple #[.int .i64 c, .bool true]) w6 := hl; have HC := Lib.hid (HPO.out c hc); clear hc hp hb6))
        obtain rfl := HC.out
        rename_i hHeld
        clear hHeld hl HC HPO hz HV hit M0
        have M6 := Lib.hid (M5.out.go S1)
        have HW3 : Hid (w.heap.size + 3 ≤ w3.heap.size) := Lib.hid (by have := M3.out.lt; omega)
        have FL6 := Lib.hid (FL5.out.keep (S1.block _ FL5.out.lt))
        have HO6 : Hid (OwnE (w3.heap.size + 1) L (.slice a5 L.length cap5) w6) := Lib.hid (HO5.out.below S1)
        obtain ⟨ge, rfl, hge, hgl, -, -, -⟩ := HO6.out.block (by omega)
        have HGE := Lib.hid hge
        have hY := hy.at_ j
        obtain ⟨y0, y1, y2⟩ := HO6.out.cellsAt hj
        have hfz := HO6.out.frozen (j * 3 + 1)
        have HST := Lib.hid (fun (w' : World) (h : OwnE (w3.heap.size + 1) L (.slice (some ⟨ge, 0, none⟩) L.length cap5) w') (c : Int) (hc : -9223372036854775808 ≤ c ∧ c ≤ 9223372036854775807) => h.storedC hj hc)
        obtain ⟨fl0, flf⟩ := FL6.out
        clear i0 i1 p0 p1 p2 p3 o0 o1 o2 o3 g0 g1 g2 g3 hge hgl
        obtain ⟨⟨p0, p1, p2, p3⟩, ⟨i0, i1⟩, -, -⟩ := M6.out.cells
        have hj2 : (j : Int) < (L.length : Int) := by omega
        have n1 : ¬ w3.heap.size = ge := by have := HGE.out; omega
        have n2 : ¬ ge = w3.heap.size := by omega
        generalize hYq : L.getD j Ent.z = Y at *
        have HYq := Lib.hid hYq
        clear hYq
        have hta := tS_bd Y.c x
        have HADD := Lib.hid (fun (w' : World) (h1 : w'.cell? ⟨w3.heap.size, 0, none⟩ = some (.bool s)) (h2 : w'.frozen? ⟨w3.heap.size, 0, none⟩ = false) => padd_any Y.c x w3.heap.size s w' hY.2.1.1 hY.2.1.2 x0 x1 h1 h2)
        go_wp2
        go_region_law (go_simp; first
          | (go_at_call 32; refine (HADD.out _ (by go_simp) (by go_simp)).mono ?_; rintro e w' ⟨rfl, rfl⟩))
        all_goals
          generalize hw7 : ((w6.setCell ⟨w3.heap.size, 0, none⟩ (.bool (s || tF Y.c x))).setCell ⟨ge, j * 3 + 1, none⟩ (.int .i64 (tS Y.c x))).drew = w7
          have HO7 : Hid (OwnE (w3.heap.size + 1) (L.set j ⟨Y.k, tS Y.c x, Y.e⟩) (.slice (some ⟨ge, 0, none⟩) (L.set j ⟨Y.k, tS Y.c x, Y.e⟩).length cap5) w7) := Lib.hid (by
            rw [← hw7, List.length_set]
            exact (HST.out _ (HO6.out.keep (Nat.lt_succ_self _) 0 _) _ ⟨by omega, by omega⟩).drewN 1)
          have HB7 : Hid (Below (w.heap.size + 3) w6 w7) := Lib.hid (by
            rw [← hw7]
            exact (bsetB (bsetB (Below.refl _ _) _ _ _ HW3.out) _ _ _ (by have := HGE.out; have := HW3.out; omega)).drew)
          have FL7 : Hid (Fl w3.heap.size (s || tF Y.c x) w7) := Lib.hid (by
            rw [← hw7]
            exact (FL6.out.set (s || tF Y.c x)).keep (Below.heap_setCell _ ⟨ge, j * 3 + 1, none⟩ _ w3.heap.size n1))
          have M7 := Lib.hid (M6.out.keep HB7.out)
          have HB3 : Hid (w3.heap.size + 1 ≤ w7.heap.size) := Lib.hid (by have := FL7.out.lt; omega)
          have HSF := Lib.hid (sortF_any (L.set j ⟨Y.k, tS Y.c x, Y.e⟩) (w3.heap.size + 1) ge cap5 w7 HO7.out (by rw [List.length_set]; omega) HB3.out)
          have HLEN : Hid ((L.set j ⟨Y.k, tS Y.c x, Y.e⟩).length = L.length) := Lib.hid (by rw [List.length_set])
          rw [HLEN.out] at HSF
          clear hw7 HST HADD fl0 flf p0 p1 p2 p3 i0 i1 y0 y1 y2 hfz
          have n3 : ¬ w3.heap.size = w.heap.size := by have := HW3.out; omega
          have n4 : ¬ w.heap.size = w3.heap.size := by omega
          have n5 : ¬ w3.heap.size = w.heap.size + 1 := by have := HW3.out; omega
          have n6 : ¬ w.heap.size + 1 = w3.heap.size := by omega
          have n7 : ¬ w3.heap.size = w.heap.size + 1 + 1 := by have := HW3.out; omega
          have n8 : ¬ w.heap.size + 1 + 1 = w3.heap.size := by omega
          go_wp2_with (first
            | (go_at_call 34; refine HSF.out.mono ?_; rintro e w8 ⟨rfl, ho8, hb8⟩; have HO8 := Lib.hid ho8; have M8 := Lib.hid (M7.out.keep (hb8.mono (by have := HW3.out; omega))); have FL8 := Lib.hid (FL7.out.keep (hb8.block _ (by omega))); obtain ⟨⟨p0, p1, p2, p3⟩, ⟨i0, i1⟩, ⟨o0, o1, o2, o3⟩, g0, g1, g2, g3⟩ := M8.out.cells; obtain ⟨fl0, flf⟩ := FL8.out; clear ho8 hb8)
            | (go_at_call 32; refine (padd_any T x w3.heap.size (s || tF Y.c x) _ T0 T1 x0 x1 fl0 flf).mono ?_; rintro e w9 ⟨rfl, rfl⟩))
          refine bodyPost_ret (v := .tuple #[.agg #[.int .i64 S, .int .i64 (tS T x), .slice (some ⟨ge, 0, none⟩) L.length cap5, .bool (s || tF Y.c x || tF T x)], .int .i64 0]) (by simp [results, Try.results12, go_sem, *]) rfl ⟨_, rfl, ⟨some ⟨ge, 0, none⟩, L.length, cap5, by rw [HYq.out], ?_⟩, ?_⟩
          · rw [HYq.out]
            refine OwnE.mono (B := w3.heap.size + 1) ?_ (by have := HW3.out; omega)
            have l3 : w.heap.size + 1 + 1 < w3.heap.size + 1 := by have := HW3.out; omega
            exact ((((HO8.out.keep (Nat.lt_succ_self _) _ _).keep l3 _ _).keep l3 _ _).keep l3 _ _).keep l3 _ _
          · have l3 : w.heap.size ≤ w.heap.size + 1 + 1 := by omega
            have l4 : w.heap.size ≤ w3.heap.size := by have := HW3.out; omega
            exact bsetB (bsetB (bsetB (bsetB (bsetB M8.out.2.2.2 _ _ _ l4) _ _ _ l3) _ _ _ l3) _ _ _ l3) _ _ _ l3
      | false =>
        unfold insA insF
        rw [if_neg (by rw [hH]; simp), if_neg (by rw [hH]; simp)]
        have HPO := Lib.hid (fun c (h : PosOf L L.length k c) => (show c = 0 by rcases h with ⟨h, _⟩ | ⟨_, h⟩; (rw [List.take_length, hH] at h; cases h); exact h))
        have hz := hasK_take L k
        rw [hH] at hz
        obtain ⟨hs0, hs1, hsl⟩ := (⟨hval.s0, hval.s1, hval.len⟩ : 1 ≤ S ∧ S ≤ 32 ∧ (L.length : Int) ≤ S)
        obtain ⟨m, hm⟩ : ∃ m : Nat, m = min L.length (S - 1).toNat := ⟨_, rfl⟩
        have hm1 : min (L.length : Int) (S - 1) = (m : Int) := by omega
        have hm2 : m ≤ L.length := by omega
        have hm3 : (m : Int) ≤ (L.length : Int) := by omega
        rw [← hm]
        have HLE := Lib.hid (fun (w' : World) (hb : Below w.heap.size w w') => pleast_any S T L s a L.length cap w' (HR.out.below hb) (by omega))
        have hlb : -9223372036854775808 ≤ leastI S L ∧ leastI S L ≤ 9223372036854775807 := by
          unfold leastI
          split
          · omega
          · exact (hy.at_ _).2.1
        have hx1 : 1 ≤ x := item_one hF
        clear hH hE hF hone hval hm
        obtain ⟨l, hl⟩ : ∃ l, l = leastI S L := ⟨_, rfl⟩
        have HL := Lib.hid hl
        rw [← hl] at HLE hlb ⊢
        clear hl
        have hta := tS_bd l x
        have hE0 : (entOf k (tS l x) l).ok := entOf_ok HK.out (by omega) (by omega) hlb.1 hlb.2
        have HEN := Lib.hid (fun w => entOf_any k (tS l x) l w (by omega) (by omega))
        have HEK := Lib.hid hE0
        clear hE0
        generalize entOf k (tS l x) l = E at *
        go_enter Try.func12, Try.ntmps12
        go_wp2_with (first
          | (go_at_call 17; refine (HV.out _ M0.out.2.2.2).mono ?_; rintro e w2 ⟨rfl, hb2⟩; have M2 := Lib.hid (M0.out.go hb2); obtain ⟨⟨p0, p1, p2, p3⟩, ⟨i0, i1⟩, ⟨o0, o1, o2, o3⟩, g0, g1, g2, g3⟩ := M2.out.cells; clear hb2)
          | (go_at_call 29; refine (hit _).mono ?_; rintro e w3 ⟨rfl, hb3⟩; have M3 := Lib.hid (M2.out.go hb3); clear p0 p1 p2 p3 i0 i1 o0 o1 o2 o3 g0 g1 g2 g3; obtain ⟨⟨p0, p1, p2, p3⟩, ⟨i0, i1⟩, ⟨o0, o1, o2, o3⟩, g0, g1, g2, g3⟩ := M3.out.cells; have MA := Lib.hid (M3.out.go (b1 (.cells #[.bool s] 58))); obtain ⟨⟨pa0, pa1, pa2, pa3⟩, -⟩ := MA.out.cells; clear hb3)
          | (go_at_call 30; refine (cloneE_any L a L.length cap _ (HR.out.below MA.out.2.2.2) (by omega)).mono ?_; rintro e w5 ⟨v5, rfl, ho5, hb5⟩; obtain ⟨a5, cap5, rfl⟩ := ho5.rd.shape; have HO5 : Hid (OwnE (w3.heap.size + 1) L (.slice a5 L.length cap5) w5) := Lib.hid (by simpa using ho5); have M5 := Lib.hid (MA.out.go hb5); have FL5 : Hid (Fl w3.heap.size s w5) := Lib.hid ((show Fl w3.heap.size s (w3.alloc (.cells #[.bool s] 58)) from ⟨by go_simp, by go_simp⟩).keep (hb5.block _ (by simp))); clear p0 p1 p2 p3 i0 i1 o0 o1 o2 o3 g0 g1 g2 g3 pa0 pa1 pa2 pa3 ho5 hb5))
        obtain ⟨⟨p0, p1, p2, p3⟩, ⟨i0, i1⟩, ⟨o0, o1, o2, o3⟩, g0, g1, g2, g3⟩ := M5.out.cells
        have hBd : Below w5.heap.size w5 w5.drew := (Below.refl w5.heap.size w5).drew
        have HRd : Hid (RdE L (.slice a5 L.length cap5) w5.drew) := Lib.hid (show RdE L (.slice a5 L.length cap5) w5.drew from HO5.out.rd)
        have HB5 : Hid (w3.heap.size + 1 ≤ w5.heap.size) := Lib.hid (by have := FL5.out.lt; omega)
        go_region_held3 (fun w' => Below w5.heap.size w5 w' ∧ w'.cell? ⟨w.heap.size + 1, 0, none⟩ = some (.string k)) (go_keep)
          (first | (go_at_call 31; refine (pos_any L a5 L.length cap5 _ HRd.out (by omega)).mono ?_; rintro e w6 ⟨rfl, hp, hb6⟩; have S1 := bgo hBd hb6; obtain ⟨-, ⟨i0, i1⟩, -⟩ := (M5.out.go S1).cells; obtain ⟨c, hc, hl⟩ := run_pos_look hp HK.out; rw [hz] at hl; replace hl : (Instr.lookup 61 (.map (some w5.heap.size)) (.string k) true).run Try.prog w6 = .ok (.tuple #[.int .i64 c, .bool false]) w6 := hl; have HC := Lib.hid (HPO.out c hc); clear hc hp hb6))
        obtain rfl := HC.out
        rename_i hHeld
        clear hHeld hl HC HPO hz HV hit M0
        have M6 := Lib.hid (M5.out.go S1)
        have HW3 : Hid (w.heap.size + 3 ≤ w3.heap.size) := Lib.hid (by have := M3.out.lt; omega)
        have FL6 := Lib.hid (FL5.out.keep (S1.block _ FL5.out.lt))
        have HO6 : Hid (OwnE (w3.heap.size + 1) L (.slice a5 L.length cap5) w6) := Lib.hid (HO5.out.below S1)
        clear i0 i1 p0 p1 p2 p3 o0 o1 o2 o3 g0 g1 g2 g3
        obtain ⟨⟨p0, p1, p2, p3⟩, ⟨i0, i1⟩, -, -⟩ := M6.out.cells
        have hcp : (m : Int) ≤ (cap5 : Int) := by
          obtain ⟨-, a1, cap1, he1, h1, -, -⟩ := HO6.out.rd
          simp only [Value.slice.injEq, true_and] at he1
          obtain ⟨rfl, rfl⟩ := he1
          omega
        have hm0 : (0 : Int) ≤ (m : Int) := by omega
        have q1 : wrap64 (S - 1) = S - 1 := by unfold wrap64; omega
        have q2 : IntKind.i64.wrap (S - 1) = S - 1 := by rw [IntKind.wrap_i64]; omega
        go_wp2_with (go_at_call 28; refine (HLE.out _ M6.out.2.2.2).mono ?_; rintro e w7 ⟨rfl, hb7⟩; have M7 := Lib.hid (M6.out.go hb7); have FL7 := Lib.hid (FL6.out.keep (hb7.block _ FL6.out.lt)); have HO7 := Lib.hid (HO6.out.below hb7); clear p0 p1 p2 p3 i0 i1 hb7; obtain ⟨⟨p0, p1, p2, p3⟩, ⟨i0, i1⟩, -, -⟩ := M7.out.cells; obtain ⟨fl0, flf⟩ := FL7.out)
        -- REGION
        have HOM : Hid (OwnE (w3.heap.size + 1) (L.take m) (.slice a5 m cap5) w7) := Lib.hid (HO7.out.cut hm2)
        have HADD := Lib.hid (fun (w' : World) (h1 : w'.cell? ⟨w3.heap.size, 0, none⟩ = some (.bool s)) (h2 : w'.frozen? ⟨w3.heap.size, 0, none⟩ = false) => padd_any l x w3.heap.size s w' hlb.1 hlb.2 x0 x1 h1 h2)
        have HMB : Hid (m ≤ 32) := Lib.hid (by omega)
        have HST : Hid (∀ wE : World, Below (w7.setCell ⟨w3.heap.size, 0, none⟩ (.bool (s || tF l x))).heap.size (w7.setCell ⟨w3.heap.size, 0, none⟩ (.bool (s || tF l x))) wE →
            OwnE (w3.heap.size + 1) (L.take m) (.slice a5 m cap5) (wE.alloc (.cells #[.string E.k, .int .i64 E.c, .int .i64 E.e] 49)) ∧ FromE [E] 23 (.slice (some ⟨wE.heap.size, 0, none⟩) 1 1) (wE.alloc (.cells #[.string E.k, .int .i64 E.c, .int .i64 E.e] 49)) ∧ w3.heap.size + 1 ≤ (wE.alloc (.cells #[.string E.k, .int .i64 E.c, .int .i64 E.e] 49)).heap.size ∧
            Mem3 w S T (.slice a L.length cap) s k x (wE.alloc (.cells #[.string E.k, .int .i64 E.c, .int .i64 E.e] 49)) ∧ Fl w3.heap.size (s || tF l x) (wE.alloc (.cells #[.string E.k, .int .i64 E.c, .int .i64 E.e] 49))) :=
          Lib.hid (fun wE hb => by
            have hl3 : w3.heap.size < w7.heap.size := FL7.out.lt
            have hsz : (w7.setCell ⟨w3.heap.size, 0, none⟩ (.bool (s || tF l x))).heap.size = w7.heap.size := by simp
            have o1 := ((HOM.out.keep (Nat.lt_succ_self _) 0 (.bool (s || tF l x))).below hb).alloc (.cells #[.string E.k, .int .i64 E.c, .int .i64 E.e] 49)
            have m1 := (M7.out.keep (bsetB (Below.refl _ _) w3.heap.size 0 (.bool (s || tF l x)) HW3.out)).go hb
            have f1 := (FL7.out.set (s || tF l x)).keep (hb.block _ (by rw [hsz]; exact hl3))
            have hlt : w3.heap.size + 1 ≤ wE.heap.size := by have := hb.size; omega
            exact ⟨o1, (OwnE.one HEK.out wE).rd.src, by simp; omega, m1.go (b1 _), f1.keep ((b1 (.cells #[.string E.k, .int .i64 E.c, .int .i64 E.e] 49)).block _ (by omega))⟩)
        clear p0 p1 p2 p3
        have n3 : ¬ w3.heap.size = w.heap.size := by have := HW3.out; omega
        have n4 : ¬ w.heap.size = w3.heap.size := by omega
        have n5 : ¬ w3.heap.size = w.heap.size + 1 := by have := HW3.out; omega
        have n6 : ¬ w.heap.size + 1 = w3.heap.size := by omega
        have n7 : ¬ w3.heap.size = w.heap.size + 1 + 1 := by have := HW3.out; omega
        have n8 : ¬ w.heap.size + 1 + 1 = w3.heap.size := by omega
        go_region_law (first
          | (refine step_appE rfl _ _ _ rfl (w3.heap.size + 1) (L.take m) [E] _ _ rfl rfl HHE.out.1 HHE.out.2.1 HHE.out.2.2.1 ?_ ?_; (have := HMB.out; rw [List.length_take]; simp; omega); intro v9 w9 ho9 hb9; have HO9 := Lib.hid ho9; have M9 := Lib.hid (HHE.out.2.2.2.1.keep (hb9.mono (by have := HW3.out; omega))); have FL9 := Lib.hid (HHE.out.2.2.2.2.keep (hb9.block _ (Nat.lt_succ_self _))); have HB9 := Lib.hid (Nat.le_trans HHE.out.2.2.1 hb9.size); clear ho9 hb9)
          | (go_simp; first
            | (go_at_call 32; refine (HADD.out _ (by go_simp) (by go_simp)).mono ?_; rintro e w' ⟨rfl, rfl⟩)
            | (go_at_call 33; refine (HEN.out _).mono ?_; rintro e wE ⟨rfl, hbE⟩; have HHE := Lib.hid (HST.out wE (by first | exact hbE | exact (Below.refl _ _).drew.trans hbE)); clear hbE)))
        all_goals
          have HLM : Hid ((L.take m ++ [E]).length = m + 1) := Lib.hid (by rw [List.length_append, List.length_take]; simp; omega)
          obtain ⟨a9, cap5', rfl⟩ := HO9.out.rd.shape
          obtain ⟨ge, rfl, -, -, -, -, -⟩ := HO9.out.block (by rw [HLM.out]; omega)
          rw [HLM.out]
          have HOX : Hid (OwnE (w3.heap.size + 1) (L.take m ++ [E]) (.slice (some ⟨ge, 0, none⟩) (L.take m ++ [E]).length cap5') w9) := HO9
          have HSF := Lib.hid (sortF_any (L.take m ++ [E]) (w3.heap.size + 1) ge cap5' w9 HOX.out (by rw [HLM.out]; omega) HB9.out)
          have HLEN : Hid ((L.take m ++ [E]).length = (m + 1)) := HLM
          rw [HLEN.out] at HSF
          clear HST HADD i0 i1 fl0 flf
          go_wp2_with (first
            | (go_at_call 34; refine HSF.out.mono ?_; rintro e w8 ⟨rfl, ho8, hb8⟩; have HO8 := Lib.hid ho8; have M8 := Lib.hid (M9.out.keep (hb8.mono (by have := HW3.out; omega))); have FL8 := Lib.hid (FL9.out.keep (hb8.block _ (by omega))); obtain ⟨⟨p0, p1, p2, p3⟩, ⟨i0, i1⟩, ⟨o0, o1, o2, o3⟩, g0, g1, g2, g3⟩ := M8.out.cells; obtain ⟨fl0, flf⟩ := FL8.out; clear ho8 hb8)
            | (go_at_call 32; refine (padd_any T x w3.heap.size (s || tF l x) _ T0 T1 x0 x1 fl0 flf).mono ?_; rintro e w9 ⟨rfl, rfl⟩))
          refine bodyPost_ret (v := .tuple #[.agg #[.int .i64 S, .int .i64 (tS T x), .slice (some ⟨ge, 0, none⟩) (m + 1) cap5', .bool (s || tF l x || tF T x)], .int .i64 0]) (by simp [results, Try.results12, go_sem, *]) rfl ⟨_, rfl, ⟨some ⟨ge, 0, none⟩, (m + 1), cap5', rfl, ?_⟩, ?_⟩
          · refine OwnE.mono (B := w3.heap.size + 1) ?_ (by have := HW3.out; omega)
            have l3 : w.heap.size + 1 + 1 < w3.heap.size + 1 := by have := HW3.out; omega
            exact ((((HO8.out.keep (Nat.lt_succ_self _) _ _).keep l3 _ _).keep l3 _ _).keep l3 _ _).keep l3 _ _
          · have l3 : w.heap.size ≤ w.heap.size + 1 + 1 := by omega
            have l4 : w.heap.size ≤ w3.heap.size := by have := HW3.out; omega
            exact bsetB (bsetB (bsetB (bsetB (bsetB M8.out.2.2.2 _ _ _ l4) _ _ _ l3) _ _ _ l3) _ _ _ l3) _ _ _ l3
    · have hF2 : (itemE (byt k) x != 0) = true := by simpa using hF
      rw [if_pos hF]
      clear hF
      go_enter Try.func12, Try.ntmps12
      go_wp2_with (first
        | (go_at_call 17; refine (HV.out _ M0.out.2.2.2).mono ?_; rintro e w2 ⟨rfl, hb2⟩; have M2 := Lib.hid (M0.out.go hb2); obtain ⟨⟨p0, p1, p2, p3⟩, ⟨i0, i1⟩, ⟨o0, o1, o2, o3⟩, g0, g1, g2, g3⟩ := M2.out.cells; clear hb2)
        | (go_at_call 29; refine (hit _).mono ?_; rintro e w3 ⟨rfl, hb3⟩; have M3 := Lib.hid (M2.out.go hb3); clear p0 p1 p2 p3 i0 i1 o0 o1 o2 o3 g0 g1 g2 g3; obtain ⟨⟨p0, p1, p2, p3⟩, ⟨i0, i1⟩, ⟨o0, o1, o2, o3⟩, g0, g1, g2, g3⟩ := M3.out.cells; clear hb3))
      refine bodyPost_ret (v := .tuple #[.agg #[.int .i64 0, .int .i64 0, .slice none 0 0, .bool false], .int .i64 (itemE (byt k) x)]) (by simp [results, Try.results12, go_sem, *]) rfl ⟨_, rfl, ⟨none, 0, 0, rfl, OwnE.empty _ _⟩, ?_⟩
      exact bsetB (bsetB (bsetB (bsetB M3.out.2.2.2 _ _ _ (by omega)) _ _ _ (by omega)) _ _ _ (by omega)) _ _ _ (by omega)
  · have hE2 : (valE S T L != 0) = true := by simpa using hE
    rw [if_pos hE, if_pos hE]
    clear hE
    go_enter Try.func12, Try.ntmps12
    go_wp2_with (go_at_call 17; refine (HV.out _ M0.out.2.2.2).mono ?_; rintro e w2 ⟨rfl, hb2⟩; have M2 := Lib.hid (M0.out.go hb2); obtain ⟨⟨p0, p1, p2, p3⟩, ⟨i0, i1⟩, ⟨o0, o1, o2, o3⟩, g0, g1, g2, g3⟩ := M2.out.cells; clear hb2)
    refine bodyPost_ret (v := .tuple #[.agg #[.int .i64 0, .int .i64 0, .slice none 0 0, .bool false], .int .i64 (valE S T L)]) (by simp [results, Try.results12, go_sem, *]) rfl ⟨_, rfl, ⟨none, 0, 0, rfl, OwnE.empty _ _⟩, ?_⟩
    exact bsetB (bsetB (bsetB (bsetB M2.out.2.2.2 _ _ _ (by omega)) _ _ _ (by omega)) _ _ _ (by omega)) _ _ _ (by omega)
end Go.Proofs.Ytcmekpdgikploaa
