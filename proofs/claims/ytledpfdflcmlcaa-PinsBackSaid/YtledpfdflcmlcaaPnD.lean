/- slices.Insert and slices.Delete at pins of the call's own: one contract each. -/
import Derived.Test.YtledpfdflcmlcaaPnJ
namespace Go.Proofs.Ytledpfdflcmlcaa
open Go.RowKit
set_option linter.unusedVariables false
set_option linter.unusedSimpArgs false
theorem insPn_any (L : List Pn) (x : Pn) (B vb i : Nat) (v : Value) (w : World) (ho : OwnPn B L v w) (hu : OwnPn 0 [x] (.slice (some ⟨vb, 0, none⟩) 1 1) w) (hne : v.ownBlock ≠ some vb) (hi : i ≤ L.length) (hB : B ≤ w.heap.size) (hL : L.length ≤ 1000000) :
    Calls Try.prog 21 #[v, .int .i64 (i : Int), .slice (some ⟨vb, 0, none⟩) 1 1] w fun e w' => ∃ v', e = .returned v' ∧ OwnPn B (L.take i ++ [x] ++ L.drop i) v' w' ∧ Below B w w' := by
  by_cases he : i = L.length
  · subst he
    have h := insPn_end L x B vb v w ho hu hB hL
    rw [List.take_length, List.drop_length, List.append_nil]
    exact h
  · have h := ho.2.2
    rcases h with ⟨rfl, hn⟩ | ⟨g, c, cur, rfl, hb, hg, h1, h2, h3, h4⟩
    · omega
    · by_cases hr : L.length + 1 ≤ c
      · exact insPn_shift L x B g vb i c w ho hu (fun e => hne (by simp [Value.ownBlock, e])) (by omega) hr hB hL
      · exact insPn_grow L x B g vb i c w ho hu (by omega) h1 (by omega) hB hL
set_option maxRecDepth 100000 in
set_option maxHeartbeats 4000000 in
theorem delPn_any (L : List Pn) (B g i c : Nat) (w : World) (ho : OwnPn B L (.slice (some ⟨g, 0, none⟩) L.length c) w) (hi : i < L.length) (hB : B ≤ w.heap.size) (hL : L.length ≤ 1000000) :
    Calls Try.prog 23 #[.slice (some ⟨g, 0, none⟩) L.length c, .int .i64 (i : Int), .int .i64 ((i : Int) + 1)] w fun e w' => ∃ v', e = .returned v' ∧ OwnPn B (L.take i ++ L.drop (i + 1)) v' w' ∧ Below B w w' := by
  obtain ⟨i0, hi0, hz0, hz1, hz2⟩ := info_parts info_pn
  have hlen : (cellsPn L).length = L.length * 2 := cellsPn_len L
  obtain ⟨cur, -, hBg, hnc, hc63, -, -, -⟩ := row_block ho.2
  have HCU := Lib.hid (row_cut ho.2 (Nat.le_of_lt hi))
  have HBG := Lib.hid hBg
  have HOK := Lib.hid ho.1
  have HO := Lib.hid ho.2
  have HCD : Hid (((cellsPn L).drop ((i + 1) * 2)).length = (L.length - (i + 1)) * 2) := Lib.hid (by rw [List.length_drop, hlen]; omega)
  have HSC : Hid (∀ j v, ((cellsPn L).drop ((i + 1) * 2))[j]? = some v → w.cell? ⟨g, (i + 1) * 2 + j, none⟩ = some v) := Lib.hid (fun j v h => row_cell ho.2 (by rwa [List.getElem?_drop] at h))
  have HI0 := Lib.hid hi0
  have HZ0 := Lib.hid hz0
  have HZ1 := Lib.hid hz1
  unfold maxLen at hc63
  have hiL : (i : Int) + 1 ≤ (L.length : Int) := by omega
  have hy0 : (i : Int) ≤ (L.length : Int) := by omega
  have hy1 : ¬ ((i : Int) = (i : Int) + 1) := by omega
  have hy2 : (0 : Int) ≤ (i : Int) + 1 := by omega
  have hnc2 : (L.length : Int) ≤ (c : Int) := by omega
  clear ho hlen hBg hi0 hz0 hz1 hz2
  obtain ⟨N, hN⟩ : ∃ N, N + 1 = L.length := ⟨L.length - 1, by omega⟩
  have HN := Lib.hid hN
  have HNE : Hid (i + (L.length - (i + 1)) = N) := Lib.hid (by omega)
  have hy4 : (N : Int) ≤ (L.length : Int) := by omega
  have hy5 : ¬ (c = N) := by omega
  clear hN
  by_cases hcc : c = i + 1
  · have hcc2 : ¬ (c = i) := by omega
    have hcc3 : (i : Int) ≤ (i : Int) + 1 := by omega
    go_enter Try.func23, Try.ntmps23
    go_wp2
    go_region_law (refine step_roomC rfl _ _ 23 rfl i0 Try.underlying23 HI0.out HZ1.out HCU.out ⟨g, 0, none⟩ (L.length-(i+1)) 0 (by simp [Act.eval, Act.put]; try omega) (by simp [Act.eval, Act.put]; try omega) ((cellsPn L).drop ((i+1)*2)) HCD.out (fun j v h => by rw [List.drop_eq_nil_of_le (by have := cellsPn_len L; omega)] at h; simp at h) (fun v h => oneCell_pn L v (List.mem_of_mem_drop h)) (by omega) ?_; intro w1 ho1 hg1; rw [HNE.out] at ho1 ⊢; have HO1 := Lib.hid ho1; have HB1 : Hid (Below B w w1) := Lib.hid (row_bel (w := w.drew) (g := g) (Below.refl B w).drew hB hg1 HBG.out); clear ho1 hg1)
    go_wp2_with (refine wp_clearC (k := 2) rfl _ 23 rfl _ i0 Try.underlying23 HI0.out HZ0.out rfl (by intro v hv; simp [Value.cells] at hv; rcases hv with rfl | rfl <;> rfl) (by decide) HO1.out (N * 2) (L.length - N) _ rfl (by have := HN.out; omega) (Nat.le_refl _) (by have := HN.out; omega) ?_; intro w2 ho2 hg2; have HO2 := Lib.hid ho2; have HB2 : Hid (Below B w w2) := Lib.hid (row_bel HB1.out (Nat.le_trans hB HB1.out.size) hg2 HBG.out); clear ho2 hg2)
    go_ret
    refine ⟨_, rfl, ⟨(HOK.out.take i).app (HOK.out.drop (i + 1)), ?_⟩, HB2.out⟩
    rw [cellsPn_app, cellsPn_take, cellsPn_drop]
    have hlen2 : (L.take i ++ L.drop (i + 1)).length = N := by have := HN.out; simp; omega
    rw [hlen2]
    have hf := HO2.out
    rw [hcc] at hf
    exact hf
  · by_cases hcc3 : c = i
    · omega
    · have hcc4 : i ≤ c := by omega
      go_enter Try.func23, Try.ntmps23
      go_wp2
      go_region_law (refine step_roomC rfl _ _ 23 rfl i0 Try.underlying23 HI0.out HZ1.out HCU.out ⟨g, (i+1)*2, none⟩ (L.length-(i+1)) (c-(i+1)) (by simp [Act.eval, Act.put]; try omega) (by simp [Act.eval, Act.put]; try omega) ((cellsPn L).drop ((i+1)*2)) HCD.out (fun j v h => by rw [Addr.add_lit]; exact HSC.out j v h) (fun v h => oneCell_pn L v (List.mem_of_mem_drop h)) (by omega) ?_; intro w1 ho1 hg1; rw [HNE.out] at ho1 ⊢; have HO1 := Lib.hid ho1; have HB1 : Hid (Below B w w1) := Lib.hid (row_bel (w := w.drew) (g := g) (Below.refl B w).drew hB hg1 HBG.out); clear ho1 hg1)
      go_wp2_with (refine wp_clearC (k := 2) rfl _ 23 rfl _ i0 Try.underlying23 HI0.out HZ0.out rfl (by intro v hv; simp [Value.cells] at hv; rcases hv with rfl | rfl <;> rfl) (by decide) HO1.out (N * 2) (L.length - N) _ rfl (by have := HN.out; omega) (Nat.le_refl _) (by have := HN.out; omega) ?_; intro w2 ho2 hg2; have HO2 := Lib.hid ho2; have HB2 : Hid (Below B w w2) := Lib.hid (row_bel HB1.out (Nat.le_trans hB HB1.out.size) hg2 HBG.out); clear ho2 hg2)
      go_ret
      refine ⟨_, rfl, ⟨(HOK.out.take i).app (HOK.out.drop (i + 1)), ?_⟩, HB2.out⟩
      rw [cellsPn_app, cellsPn_take, cellsPn_drop]
      have hlen2 : (L.take i ++ L.drop (i + 1)).length = N := by have := HN.out; simp; omega
      rw [hlen2]
      exact HO2.out
end Go.Proofs.Ytledpfdflcmlcaa
