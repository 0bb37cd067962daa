/- The contracts of the reference's Shared and of sketchstorebase.Bytes. -/
import Derived.Test.YtbppdbfjhdhehaaPgE
import Derived.Deep.RegionHeld
namespace Go.Proofs.Ytbppdbfjhdhehaa
open Go.RowKit
set_option linter.unusedVariables false
set_option linter.unusedSimpArgs false
theorem RdO.drew {L : List Bool} {v : Value} {w : World} (h : RdO L v w) : RdO L v w.drew := h
theorem run_asB {P : Program} {x : Operand} {t : TypeId} {dst : Option Nat} {pos : String} {aft : Array Edge} {a : Act} {w : World} {v : Value} (hx : a.eval x = v) : (execOp a.eval ⟨dst, .assign x, t, pos, aft, none⟩).run P w = .ok (.value v) w := by
  subst hx
  rfl
theorem shL_take {X Y : List (List Int)} {k : Nat} : (List.range (k + 1)).map (shB X Y) = (List.range k).map (shB X Y) ++ [shB X Y k] := by
  rw [List.range_succ, List.map_append]
  rfl
set_option maxRecDepth 100000 in
set_option maxHeartbeats 1000000 in
theorem rshared_any (X Y : List (List Int)) (v u : Value) (w : World) (hv : RdPs X v w) (hu : RdPs Y u w) (hY : Y.length ≤ 1000000000000) :
    Calls Try.prog 17 #[v, u] w fun e w' => ∃ v', e = .returned v' ∧ RdO (shL X Y) v' w' ∧ Below w.heap.size w w' := by
  obtain ⟨a, cap, rfl⟩ := hv.shape
  obtain ⟨a2, cap2, rfl⟩ := hu.shape
  have HV := Lib.hid hv
  have HU := Lib.hid hu
  have hl : (X.length : Int) ≤ 9223372036854775807 := by
    obtain ⟨us, ⟨_, a', cap', he, g1, g2, _⟩, g3, _⟩ := hv
    unfold maxLen at g2
    omega
  clear hv hu
  go_enter Try.func17, Try.ntmps17
  go_wp2
  go_loopw [5, 6] (fun vl i wr => ∃ k : Nat, k ≤ Y.length ∧ i = .int .i64 (k : Int) ∧ Hid (OwnO w.heap.size ((List.range k).map (shB X Y)) vl wr) ∧ Hid (Below w.heap.size w wr)) (fun _ i _ => Y.length - (intOf i).toNat)
  case atStart => exact ⟨0, by omega, rfl, Lib.hid (OwnO.empty _ _), Lib.hid (Below.refl _ _)⟩
  case round =>
    obtain ⟨k, hk, rfl, HO, HB⟩ := hrel
    by_cases hlt : k < Y.length
    · have hki : (k : Int) < (Y.length : Int) := by omega
      have HT := Lib.hid (shL_take (X := X) (Y := Y) (k := k))
      have HL := Lib.hid (show ((List.range k).map (shB X Y)).length ≤ 1000000000000 by simp; omega)
      obtain ⟨ul, uc, rfl⟩ := HO.out.rd.shape
      by_cases hkX : k < X.length
      · obtain ⟨b, off, p, m, c, rfl, -, hb, hc, hr, -⟩ := HV.out.at_ hkX
        obtain ⟨b2, off2, p2, m2, c2, rfl, -, hb2, hc2, hr2, -⟩ := HU.out.at_ hlt
        have hcw := fun ww (h : Below w.heap.size w ww) => (h.cell (p := ⟨b, off + k, none⟩) hb).trans hc
        have hcw2 := fun ww (h : Below w.heap.size w ww) => (h.cell (p := ⟨b2, off2 + k, none⟩) hb2).trans hc2
        have hcv := fun ww (h : Below w.heap.size w ww) => (hr.below h).conv
        have hcv2 := fun ww (h : Below w.heap.size w ww) => (hr2.below h).conv
        have hxi : (k : Int) < (X.length : Int) := by omega
        have he : ((strOfNums (X.getD k [])).toList == (strOfNums (Y.getD k [])).toList) = shB X Y k := by
          rw [str_eqB hr.1 hr2.1]
          unfold shB
          rw [decide_eq_true hkX]
          rfl
        clear hr hr2 hc hc2
        generalize strOfNums (X.getD k []) = s at *
        generalize strOfNums (Y.getD k []) = t at *
        generalize shB X Y k = q at *
        generalize (List.range k).map (shB X Y) = A at *
        go_wp2
        refine wp_region_held_drew (S := fun w' => Below w.heap.size w w') (by kernel_rfl) (below_drew HB.out) (fun hH0 => ?_)
        refine wpAnyH_take (i := 0) (v := ?_) rfl (by kernel_rfl) (by kernel_rfl) (by kernel_rfl) (fun _ _ _ h => h) (Or.inl ⟨by rfl, ?_⟩) hH0 ?_
        rotate_left
        · intro ww hSw; (try simp only [List.getElem_toArray, List.getElem_cons_zero, List.getElem_cons_succ]); go_simp <;> with_reducible rfl
        try simp only [Act.put, List.getElem_toArray, List.getElem_cons_zero, List.getElem_cons_succ, List.setIfInBounds_toArray, List.set_cons_zero, List.set_cons_succ]
        refine wpAnyH_take (i := 1) (v := ?_) rfl (by kernel_rfl) (by kernel_rfl) (by kernel_rfl) (fun _ _ _ h => h) (Or.inl ⟨by rfl, ?_⟩) hH0 ?_
        rotate_left
        · intro ww hSw; (try simp only [List.getElem_toArray, List.getElem_cons_zero, List.getElem_cons_succ]); go_simp <;> with_reducible rfl
        try simp only [Act.put, List.getElem_toArray, List.getElem_cons_zero, List.getElem_cons_succ, List.setIfInBounds_toArray, List.set_cons_zero, List.set_cons_succ]
        refine wpAnyH_take (i := 2) (v := ?_) rfl (by kernel_rfl) (by kernel_rfl) (by kernel_rfl) (fun _ _ _ h => h) (Or.inl ⟨by rfl, ?_⟩) hH0 ?_
        rotate_left
        · intro ww hSw; (try simp only [List.getElem_toArray, List.getElem_cons_zero, List.getElem_cons_succ]); go_simp <;> with_reducible rfl
        try simp only [Act.put, List.getElem_toArray, List.getElem_cons_zero, List.getElem_cons_succ, List.setIfInBounds_toArray, List.set_cons_zero, List.set_cons_succ]
        refine wpAnyH_take (i := 3) (v := ?_) rfl (by kernel_rfl) (by kernel_rfl) (by kernel_rfl) (fun _ _ _ h => h) (Or.inl ⟨by rfl, ?_⟩) hH0 ?_
        rotate_left
        · intro ww hSw; (try simp only [List.getElem_toArray, List.getElem_cons_zero, List.getElem_cons_succ]); go_simp <;> with_reducible rfl
        try simp only [Act.put, List.getElem_toArray, List.getElem_cons_zero, List.getElem_cons_succ, List.setIfInBounds_toArray, List.set_cons_zero, List.set_cons_succ]
        refine wpAnyH_take (i := 4) (v := ?_) rfl (by kernel_rfl) (by kernel_rfl) (by kernel_rfl) (fun _ _ _ h => h) (Or.inl ⟨by rfl, ?_⟩) hH0 ?_
        rotate_left
        · intro ww hSw; (try simp only [List.getElem_toArray, List.getElem_cons_zero, List.getElem_cons_succ]); go_simp <;> with_reducible rfl
        try simp only [Act.put, List.getElem_toArray, List.getElem_cons_zero, List.getElem_cons_succ, List.setIfInBounds_toArray, List.set_cons_zero, List.set_cons_succ]
        refine wpAnyH_take (i := 5) (v := ?_) rfl (by kernel_rfl) (by kernel_rfl) (by kernel_rfl) (fun _ _ _ h => h) (Or.inl ⟨by rfl, ?_⟩) hH0 ?_
        rotate_left
        · intro ww hSw; (try simp only [List.getElem_toArray, List.getElem_cons_zero, List.getElem_cons_succ]); go_simp <;> with_reducible rfl
        try simp only [Act.put, List.getElem_toArray, List.getElem_cons_zero, List.getElem_cons_succ, List.setIfInBounds_toArray, List.set_cons_zero, List.set_cons_succ]
        refine wpAnyH_take (i := 6) (v := ?_) rfl (by kernel_rfl) (by kernel_rfl) (by kernel_rfl) (fun _ _ _ h => h) (Or.inl ⟨by rfl, ?_⟩) hH0 ?_
        rotate_left
        · intro ww hSw; (try simp only [List.getElem_toArray, List.getElem_cons_zero, List.getElem_cons_succ]); go_simp <;> with_reducible rfl
        try simp only [Act.put, List.getElem_toArray, List.getElem_cons_zero, List.getElem_cons_succ, List.setIfInBounds_toArray, List.set_cons_zero, List.set_cons_succ]
        refine wpAnyH_take (i := 7) (v := ?_) rfl (by kernel_rfl) (by kernel_rfl) (by kernel_rfl) (fun _ _ _ h => h) (Or.inl ⟨by rfl, ?_⟩) hH0 ?_
        rotate_left
        · intro ww hSw; (try simp only [List.getElem_toArray, List.getElem_cons_zero, List.getElem_cons_succ]); go_simp <;> with_reducible rfl
        try simp only [Act.put, List.getElem_toArray, List.getElem_cons_zero, List.getElem_cons_succ, List.setIfInBounds_toArray, List.set_cons_zero, List.set_cons_succ]
        refine wpAnyH_take (i := 8) (v := ?_) rfl (by kernel_rfl) (by kernel_rfl) (by kernel_rfl) (fun _ _ _ h => h) (Or.inl ⟨by rfl, ?_⟩) hH0 ?_
        rotate_left
        · intro ww hSw; (try simp only [List.getElem_toArray, List.getElem_cons_zero, List.getElem_cons_succ]); go_simp <;> with_reducible rfl
        try simp only [Act.put, List.getElem_toArray, List.getElem_cons_zero, List.getElem_cons_succ, List.setIfInBounds_toArray, List.set_cons_zero, List.set_cons_succ]
        refine wpAnyH_take (i := 9) (v := ?_) rfl (by kernel_rfl) (by kernel_rfl) (by kernel_rfl) (fun _ _ _ h => h) (Or.inl ⟨by rfl, ?_⟩) hH0 ?_
        rotate_left
        · intro ww hSw; have hq := hcw ww hSw; (try simp only [List.getElem_toArray, List.getElem_cons_zero, List.getElem_cons_succ]); go_simp <;> with_reducible rfl
        try simp only [Act.put, List.getElem_toArray, List.getElem_cons_zero, List.getElem_cons_succ, List.setIfInBounds_toArray, List.set_cons_zero, List.set_cons_succ]
        refine wpAnyH_take (i := 10) (v := ?_) rfl (by kernel_rfl) (by kernel_rfl) (by kernel_rfl) (fun _ _ _ h => h) (Or.inl ⟨by rfl, ?_⟩) hH0 ?_
        rotate_left
        · intro ww hSw; have hq := hcv ww hSw; (try simp only [List.getElem_toArray, List.getElem_cons_zero, List.getElem_cons_succ]); go_simp <;> with_reducible rfl
        try simp only [Act.put, List.getElem_toArray, List.getElem_cons_zero, List.getElem_cons_succ, List.setIfInBounds_toArray, List.set_cons_zero, List.set_cons_succ]
        refine wpAnyH_take (i := 11) (v := ?_) rfl (by kernel_rfl) (by kernel_rfl) (by kernel_rfl) (fun _ _ _ h => h) (Or.inl ⟨by rfl, ?_⟩) hH0 ?_
        rotate_left
        · intro ww hSw; (try simp only [List.getElem_toArray, List.getElem_cons_zero, List.getElem_cons_succ]); go_simp <;> with_reducible rfl
        try simp only [Act.put, List.getElem_toArray, List.getElem_cons_zero, List.getElem_cons_succ, List.setIfInBounds_toArray, List.set_cons_zero, List.set_cons_succ]
        refine wpAnyH_take (i := 12) (v := ?_) rfl (by kernel_rfl) (by kernel_rfl) (by kernel_rfl) (fun _ _ _ h => h) (Or.inl ⟨by rfl, ?_⟩) hH0 ?_
        rotate_left
        · intro ww hSw; (try simp only [List.getElem_toArray, List.getElem_cons_zero, List.getElem_cons_succ]); go_simp <;> with_reducible rfl
        try simp only [Act.put, List.getElem_toArray, List.getElem_cons_zero, List.getElem_cons_succ, List.setIfInBounds_toArray, List.set_cons_zero, List.set_cons_succ]
        refine wpAnyH_take (i := 13) (v := ?_) rfl (by kernel_rfl) (by kernel_rfl) (by kernel_rfl) (fun _ _ _ h => h) (Or.inl ⟨by rfl, ?_⟩) hH0 ?_
        rotate_left
        · intro ww hSw; (try simp only [List.getElem_toArray, List.getElem_cons_zero, List.getElem_cons_succ]); go_simp <;> with_reducible rfl
        try simp only [Act.put, List.getElem_toArray, List.getElem_cons_zero, List.getElem_cons_succ, List.setIfInBounds_toArray, List.set_cons_zero, List.set_cons_succ]
        refine wpAnyH_take (i := 14) (v := ?_) rfl (by kernel_rfl) (by kernel_rfl) (by kernel_rfl) (fun _ _ _ h => h) (Or.inl ⟨by rfl, ?_⟩) hH0 ?_
        rotate_left
        · intro ww hSw; have hq := hcw2 ww hSw; (try simp only [List.getElem_toArray, List.getElem_cons_zero, List.getElem_cons_succ]); go_simp <;> with_reducible rfl
        try simp only [Act.put, List.getElem_toArray, List.getElem_cons_zero, List.getElem_cons_succ, List.setIfInBounds_toArray, List.set_cons_zero, List.set_cons_succ]
        refine wpAnyH_take (i := 15) (v := ?_) rfl (by kernel_rfl) (by kernel_rfl) (by kernel_rfl) (fun _ _ _ h => h) (Or.inl ⟨by rfl, ?_⟩) hH0 ?_
        rotate_left
        · intro ww hSw; have hq := hcv2 ww hSw; (try simp only [List.getElem_toArray, List.getElem_cons_zero, List.getElem_cons_succ]); go_simp <;> with_reducible rfl
        try simp only [Act.put, List.getElem_toArray, List.getElem_cons_zero, List.getElem_cons_succ, List.setIfInBounds_toArray, List.set_cons_zero, List.set_cons_succ]
        refine wpAnyH_take (i := 16) (v := ?_) rfl (by kernel_rfl) (by kernel_rfl) (by kernel_rfl) (fun _ _ _ h => h) (Or.inl ⟨by rfl, ?_⟩) hH0 ?_
        rotate_left
        · intro ww hSw; (try simp only [List.getElem_toArray, List.getElem_cons_zero, List.getElem_cons_succ]); go_simp <;> with_reducible rfl
        try simp only [Act.put, List.getElem_toArray, List.getElem_cons_zero, List.getElem_cons_succ, List.setIfInBounds_toArray, List.set_cons_zero, List.set_cons_succ]
        refine wpAnyH_take (i := 17) (v := ?_) rfl (by kernel_rfl) (by kernel_rfl) (by kernel_rfl) (fun _ _ _ h => h) (Or.inl ⟨by rfl, ?_⟩) hH0 ?_
        rotate_left
        · intro ww hSw; (try simp only [List.getElem_toArray, List.getElem_cons_zero, List.getElem_cons_succ]); go_simp <;> with_reducible rfl
        try simp only [Act.put, List.getElem_toArray, List.getElem_cons_zero, List.getElem_cons_succ, List.setIfInBounds_toArray, List.set_cons_zero, List.set_cons_succ]
        refine wpAnyH_ready (rs := [18]) (by kernel_rfl) (by simp) ?_
        refine AllReadyH.cons rfl (fun KK hK => ?_) AllReadyH.nil
        (dsimp only [List.getElem_toArray, List.getElem_cons_zero, List.getElem_cons_succ])
        rw [if_pos (by rfl)]
        go_simp
        refine hK.out _ _ (below_drew (bal HB.out _)) (fun hH1 => ?_)
        clear hK KK hH0
        try simp only [Act.put, List.getElem_toArray, List.getElem_cons_zero, List.getElem_cons_succ, List.setIfInBounds_toArray, List.set_cons_zero, List.set_cons_succ]
        refine wpAnyH_ready (rs := [19]) (by kernel_rfl) (by simp) ?_
        refine AllReadyH.cons rfl (fun KK hK => ?_) AllReadyH.nil
        show ite _ _ _
        refine step_appO rfl _ _ _ rfl w.heap.size A [q] _ _ rfl rfl (HO.out.below (below_drew (b1 _))) (OwnO.one q wr).rd.drew.src ?_ ?_ ?_
        · have := HB.out.size; simp; omega
        · have := HL.out; simp; omega
        intro v3 w3 ho hb3
        have HO3 := Lib.hid ho
        have HB3 := Lib.hid ((below_drew (bal HB.out _)).trans hb3)
        refine hK.out _ _ HB3.out (fun hH2 => ?_)
        clear hK KK hH1 ho hb3
        try simp only [Act.put, List.getElem_toArray, List.getElem_cons_zero, List.getElem_cons_succ, List.setIfInBounds_toArray, List.set_cons_zero, List.set_cons_succ]
        refine wpAnyH_take (i := 20) (v := v3) rfl (by kernel_rfl) (by kernel_rfl) (by kernel_rfl) (fun _ _ _ h => h) (Or.inl ⟨by rfl, fun _ _ => run_asB rfl⟩) hH2 ?_
        try simp only [Act.put, List.getElem_toArray, List.getElem_cons_zero, List.getElem_cons_succ, List.setIfInBounds_toArray, List.set_cons_zero, List.set_cons_succ]
        refine wpAnyH_done (by kernel_rfl) ?_ _
        simp only [Exit.inBlock, Exit.then]
        go_wp2
        go_roundw
        case rel => exact ⟨k + 1, by omega, by go_num, Lib.hid (by rw [HT.out]; exact HO3.out), HB3⟩
        case measure => simp [intOf]; omega
      · have hxi : decide ((k : Int) < (X.length : Int)) = false := by simpa using hkX
        have HQ := Lib.hid (show shB X Y k = false by unfold shB; rw [decide_eq_false hkX]; rfl)
        generalize (List.range k).map (shB X Y) = A at *
        have hle : X.length ≤ k := by omega
        clear hkX
        go_wp2
        refine wp_region_held_drew (S := fun w' => Below w.heap.size w w') (by kernel_rfl) (below_drew HB.out) (fun hH0 => ?_)
        refine wpAnyH_take (i := 0) (v := ?_) rfl (by kernel_rfl) (by kernel_rfl) (by kernel_rfl) (fun _ _ _ h => h) (Or.inl ⟨by rfl, ?_⟩) hH0 ?_
        rotate_left
        · intro ww hSw; (try simp only [List.getElem_toArray, List.getElem_cons_zero, List.getElem_cons_succ]); go_simp <;> with_reducible rfl
        try simp only [Act.put, List.getElem_toArray, List.getElem_cons_zero, List.getElem_cons_succ, List.setIfInBounds_toArray, List.set_cons_zero, List.set_cons_succ]
        refine wpAnyH_take (i := 1) (v := ?_) rfl (by kernel_rfl) (by kernel_rfl) (by kernel_rfl) (fun _ _ _ h => h) (Or.inl ⟨by rfl, ?_⟩) hH0 ?_
        rotate_left
        · intro ww hSw; (try simp only [List.getElem_toArray, List.getElem_cons_zero, List.getElem_cons_succ]); go_simp <;> with_reducible rfl
        try simp only [Act.put, List.getElem_toArray, List.getElem_cons_zero, List.getElem_cons_succ, List.setIfInBounds_toArray, List.set_cons_zero, List.set_cons_succ]
        refine wpAnyH_take (i := 2) (v := ?_) rfl (by kernel_rfl) (by kernel_rfl) (by kernel_rfl) (fun _ _ _ h => h) (Or.inl ⟨by rfl, ?_⟩) hH0 ?_
        rotate_left
        · intro ww hSw; (try simp only [List.getElem_toArray, List.getElem_cons_zero, List.getElem_cons_succ]); go_simp <;> with_reducible rfl
        try simp only [Act.put, List.getElem_toArray, List.getElem_cons_zero, List.getElem_cons_succ, List.setIfInBounds_toArray, List.set_cons_zero, List.set_cons_succ]
        refine wpAnyH_take (i := 3) (v := ?_) rfl (by kernel_rfl) (by kernel_rfl) (by kernel_rfl) (fun _ _ _ h => h) (Or.inl ⟨by rfl, ?_⟩) hH0 ?_
        rotate_left
        · intro ww hSw; (try simp only [List.getElem_toArray, List.getElem_cons_zero, List.getElem_cons_succ]); go_simp <;> with_reducible rfl
        try simp only [Act.put, List.getElem_toArray, List.getElem_cons_zero, List.getElem_cons_succ, List.setIfInBounds_toArray, List.set_cons_zero, List.set_cons_succ]
        refine wpAnyH_take (i := 4) (v := .bool false) rfl (by kernel_rfl) (by kernel_rfl) (by kernel_rfl) (fun _ _ _ h => h) (Or.inl ⟨by rfl, fun ww hSw => by go_simp <;> exact hle⟩) hH0 ?_
        try simp only [Act.put, List.getElem_toArray, List.getElem_cons_zero, List.getElem_cons_succ, List.setIfInBounds_toArray, List.set_cons_zero, List.set_cons_succ]
        refine wpAnyH_take (i := 5) (v := .bool false) rfl (by kernel_rfl) (by kernel_rfl) (by kernel_rfl) (fun _ _ _ h => h) (Or.inl ⟨by rfl, fun ww hSw => by go_simp <;> exact hle⟩) hH0 ?_
        try simp only [Act.put, List.getElem_toArray, List.getElem_cons_zero, List.getElem_cons_succ, List.setIfInBounds_toArray, List.set_cons_zero, List.set_cons_succ]
        refine wpAnyH_take (i := 6) (v := undef) rfl (by kernel_rfl) (by kernel_rfl) (by kernel_rfl) (fun _ _ _ h => h) (Or.inr ⟨by rfl, rfl⟩) hH0 ?_
        try simp only [Act.put, List.getElem_toArray, List.getElem_cons_zero, List.getElem_cons_succ, List.setIfInBounds_toArray, List.set_cons_zero, List.set_cons_succ]
        refine wpAnyH_take (i := 7) (v := undef) rfl (by kernel_rfl) (by kernel_rfl) (by kernel_rfl) (fun _ _ _ h => h) (Or.inr ⟨by rfl, rfl⟩) hH0 ?_
        try simp only [Act.put, List.getElem_toArray, List.getElem_cons_zero, List.getElem_cons_succ, List.setIfInBounds_toArray, List.set_cons_zero, List.set_cons_succ]
        refine wpAnyH_take (i := 8) (v := undef) rfl (by kernel_rfl) (by kernel_rfl) (by kernel_rfl) (fun _ _ _ h => h) (Or.inr ⟨by rfl, rfl⟩) hH0 ?_
        try simp only [Act.put, List.getElem_toArray, List.getElem_cons_zero, List.getElem_cons_succ, List.setIfInBounds_toArray, List.set_cons_zero, List.set_cons_succ]
        refine wpAnyH_take (i := 9) (v := undef) rfl (by kernel_rfl) (by kernel_rfl) (by kernel_rfl) (fun _ _ _ h => h) (Or.inr ⟨by rfl, rfl⟩) hH0 ?_
        try simp only [Act.put, List.getElem_toArray, List.getElem_cons_zero, List.getElem_cons_succ, List.setIfInBounds_toArray, List.set_cons_zero, List.set_cons_succ]
        refine wpAnyH_take (i := 10) (v := undef) rfl (by kernel_rfl) (by kernel_rfl) (by kernel_rfl) (fun _ _ _ h => h) (Or.inr ⟨by rfl, rfl⟩) hH0 ?_
        try simp only [Act.put, List.getElem_toArray, List.getElem_cons_zero, List.getElem_cons_succ, List.setIfInBounds_toArray, List.set_cons_zero, List.set_cons_succ]
        refine wpAnyH_take (i := 11) (v := undef) rfl (by kernel_rfl) (by kernel_rfl) (by kernel_rfl) (fun _ _ _ h => h) (Or.inr ⟨by rfl, rfl⟩) hH0 ?_
        try simp only [Act.put, List.getElem_toArray, List.getElem_cons_zero, List.getElem_cons_succ, List.setIfInBounds_toArray, List.set_cons_zero, List.set_cons_succ]
        refine wpAnyH_take (i := 12) (v := undef) rfl (by kernel_rfl) (by kernel_rfl) (by kernel_rfl) (fun _ _ _ h => h) (Or.inr ⟨by rfl, rfl⟩) hH0 ?_
        try simp only [Act.put, List.getElem_toArray, List.getElem_cons_zero, List.getElem_cons_succ, List.setIfInBounds_toArray, List.set_cons_zero, List.set_cons_succ]
        refine wpAnyH_take (i := 13) (v := undef) rfl (by kernel_rfl) (by kernel_rfl) (by kernel_rfl) (fun _ _ _ h => h) (Or.inr ⟨by rfl, rfl⟩) hH0 ?_
        try simp only [Act.put, List.getElem_toArray, List.getElem_cons_zero, List.getElem_cons_succ, List.setIfInBounds_toArray, List.set_cons_zero, List.set_cons_succ]
        refine wpAnyH_take (i := 14) (v := undef) rfl (by kernel_rfl) (by kernel_rfl) (by kernel_rfl) (fun _ _ _ h => h) (Or.inr ⟨by rfl, rfl⟩) hH0 ?_
        try simp only [Act.put, List.getElem_toArray, List.getElem_cons_zero, List.getElem_cons_succ, List.setIfInBounds_toArray, List.set_cons_zero, List.set_cons_succ]
        refine wpAnyH_take (i := 15) (v := undef) rfl (by kernel_rfl) (by kernel_rfl) (by kernel_rfl) (fun _ _ _ h => h) (Or.inr ⟨by rfl, rfl⟩) hH0 ?_
        try simp only [Act.put, List.getElem_toArray, List.getElem_cons_zero, List.getElem_cons_succ, List.setIfInBounds_toArray, List.set_cons_zero, List.set_cons_succ]
        refine wpAnyH_take (i := 16) (v := undef) rfl (by kernel_rfl) (by kernel_rfl) (by kernel_rfl) (fun _ _ _ h => h) (Or.inr ⟨by rfl, rfl⟩) hH0 ?_
        try simp only [Act.put, List.getElem_toArray, List.getElem_cons_zero, List.getElem_cons_succ, List.setIfInBounds_toArray, List.set_cons_zero, List.set_cons_succ]
        refine wpAnyH_take (i := 17) (v := .bool false) rfl (by kernel_rfl) (by kernel_rfl) (by kernel_rfl) (fun _ _ _ h => h) (Or.inl ⟨by rfl, fun ww hSw => by go_simp <;> exact hle⟩) hH0 ?_
        try simp only [Act.put, List.getElem_toArray, List.getElem_cons_zero, List.getElem_cons_succ, List.setIfInBounds_toArray, List.set_cons_zero, List.set_cons_succ]
        refine wpAnyH_ready (rs := [18]) (by kernel_rfl) (by simp) ?_
        refine AllReadyH.cons rfl (fun KK hK => ?_) AllReadyH.nil
        (dsimp only [List.getElem_toArray, List.getElem_cons_zero, List.getElem_cons_succ])
        rw [if_pos (by rfl)]
        go_simp
        refine hK.out _ _ (below_drew (bal HB.out _)) (fun hH1 => ?_)
        clear hK KK hH0
        try simp only [Act.put, List.getElem_toArray, List.getElem_cons_zero, List.getElem_cons_succ, List.setIfInBounds_toArray, List.set_cons_zero, List.set_cons_succ]
        refine wpAnyH_ready (rs := [19]) (by kernel_rfl) (by simp) ?_
        refine AllReadyH.cons rfl (fun KK hK => ?_) AllReadyH.nil
        show ite _ _ _
        refine step_appO rfl _ _ _ rfl w.heap.size A [false] _ _ rfl rfl (HO.out.below (below_drew (b1 _))) (OwnO.one false wr).rd.drew.src ?_ ?_ ?_
        · have := HB.out.size; simp; omega
        · have := HL.out; simp; omega
        intro v3 w3 ho hb3
        have HO3 := Lib.hid ho
        have HB3 := Lib.hid ((below_drew (bal HB.out _)).trans hb3)
        refine hK.out _ _ HB3.out (fun hH2 => ?_)
        clear hK KK hH1 ho hb3
        try simp only [Act.put, List.getElem_toArray, List.getElem_cons_zero, List.getElem_cons_succ, List.setIfInBounds_toArray, List.set_cons_zero, List.set_cons_succ]
        refine wpAnyH_take (i := 20) (v := v3) rfl (by kernel_rfl) (by kernel_rfl) (by kernel_rfl) (fun _ _ _ h => h) (Or.inl ⟨by rfl, fun _ _ => run_asB rfl⟩) hH2 ?_
        try simp only [Act.put, List.getElem_toArray, List.getElem_cons_zero, List.getElem_cons_succ, List.setIfInBounds_toArray, List.set_cons_zero, List.set_cons_succ]
        refine wpAnyH_done (by kernel_rfl) ?_ _
        simp only [Exit.inBlock, Exit.then]
        go_wp2
        go_roundw
        case rel => exact ⟨k + 1, by omega, by go_num, Lib.hid (by rw [HT.out, HQ.out]; exact HO3.out), HB3⟩
        case measure => simp [intOf]; omega
    · obtain rfl : k = Y.length := by omega
      go_wp2
      go_ret
      exact ⟨_, rfl, HO.out.rd, HB.out⟩
/-- An own slice with an element: its cells, and what a store leaves. -/
theorem Own.cells {B : Nat} {L : List Int} {a : Option Addr} {n cap : Nat} {w : World} (h : Own B L (.slice a n cap) w) (hp : 0 < L.length) :
    ∃ g, a = some ⟨g, 0, none⟩ ∧ B ≤ g ∧ (∀ j, j < L.length → w.cell? ⟨g, j, none⟩ = some (.int .u8 (L.getD j 0)) ∧ w.frozen? ⟨g, j, none⟩ = false) ∧
      ∀ j c, 0 ≤ c ∧ c ≤ 255 → Own B (L.set j c) (.slice (some ⟨g, 0, none⟩) n cap) (w.setCell ⟨g, j, none⟩ (.int .u8 c)) := by
  obtain ⟨hy, ho⟩ := h
  have h2 := ho.2
  rcases h2 with ⟨he, hn⟩ | ⟨g, cap', cur, he, hb, _⟩
  · omega
  · simp only [Value.slice.injEq] at he
    obtain ⟨rfl, hnl, rfl⟩ := he
    subst hnl
    refine ⟨g, rfl, hb, fun j hj => ⟨(World.ownsRow.cellAt ho j (by omega)).trans (cells8_at hj), World.ownsRow.frozenAt ho j⟩, fun j c hc => ⟨fun x hx => ?_, ?_⟩⟩
    · rcases List.mem_or_eq_of_mem_set hx with h | rfl
      · exact hy x h
      · exact hc
    · have := (World.ownsRow.stored ho j (.int .u8 c)).1
      rw [List.length_set]
      have e : (cells8 L).set j (.int .u8 c) = cells8 (L.set j c) := by simp [cells8, List.map_set]
      rw [e] at this
      exact this
theorem mask4b (n : Int) : bits .and .i64 n 15 = n % 16 := i64_mask 4 (by decide) n
theorem mask6b (n : Int) : bits .and .i64 n 63 = n % 64 := i64_mask 6 (by decide) n
set_option maxRecDepth 100000 in
set_option maxHeartbeats 1000000 in
theorem bytes_any (n : Int) (w : World) (n0 : 0 ≤ n) (n1 : n ≤ 65535) :
    Calls Try.prog 15 #[.int .i64 n] w fun e w' => ∃ L v', L.length ≤ 60 ∧ e = .returned v' ∧ Rd L v' w' ∧ Below w.heap.size w w' := by
  have m1 := mask6b (n / 8)
  have m2 := mask4b (n / 512)
  obtain ⟨N, hN⟩ : ∃ N : Nat, n / 8 % 64 % 61 = (N : Int) := ⟨(n / 8 % 64 % 61).toNat, by omega⟩
  have hN60 : N ≤ 60 := by omega
  obtain ⟨y, hy⟩ : ∃ y, IntKind.u8.wrap n = y := ⟨_, rfl⟩
  have hyb : 0 ≤ y ∧ y ≤ 255 := by rw [← hy, IntKind.wrap_u8']; omega
  go_enter Try.func15, Try.ntmps15
  go_wp2
  go_loopw [3, 4] (fun vb i wr => ∃ (k : Nat) (M : List Int), k ≤ N ∧ M.length = k ∧ i = .int .i64 (k : Int) ∧ Hid (Own w.heap.size M vb wr) ∧ Hid (Below w.heap.size w wr)) (fun _ i _ => N - (intOf i).toNat)
  case atStart => exact ⟨0, [], by omega, rfl, rfl, Lib.hid (Own.empty _ _), Lib.hid (Below.refl _ _)⟩
  case round =>
    obtain ⟨k, M, hk, hMk, rfl, HO, HB⟩ := hrel
    have HMK := Lib.hid hMk
    clear hMk
    by_cases hlt : k < N
    · have hki : (k : Int) < (N : Int) := by omega
      have HM2 := Lib.hid (show (M ++ [(k : Int)]).length = k + 1 by rw [List.length_append, HMK.out]; rfl)
      have HMB := Lib.hid (show M.length + 1 ≤ 1000 by rw [HMK.out]; omega)
      obtain ⟨bq, hbq⟩ : ∃ bq, ((k : Int) % 16 == n / 512 % 16) = bq := ⟨_, rfl⟩
      cases bq
      · go_wp2_with (at_builtin; refine wp_app rfl _ (.tmp 16) _ rfl w.heap.size M [(k : Int)] _ _ rfl rfl (HO.out.alloc _) (Own.one ⟨by omega, by omega⟩ wr).rd.src (by have := HB.out.size; simp; omega) (by have := HMB.out; simp; omega) ?_; intro v2 w2 ho hb2; have HO2 := Lib.hid ho; have HB2 := Lib.hid ((bal HB.out _).trans hb2); clear ho hb2)
        go_roundw
        case rel => exact ⟨k + 1, M ++ [(k : Int)], by omega, HM2.out, by go_num, HO2, HB2⟩
        case measure => simp [intOf]; omega
      · have hk1 : (k : Int) < ((k + 1 : Nat) : Int) := by omega
        go_wp2_with (at_builtin; refine wp_app rfl _ (.tmp 16) _ rfl w.heap.size M [(k : Int)] _ _ rfl rfl (HO.out.alloc _) (Own.one ⟨by omega, by omega⟩ wr).rd.src (by have := HB.out.size; simp; omega) (by have := HMB.out; simp; omega) ?_; intro v2 w2 ho hb2; have HO2 := Lib.hid ho; have HB2 := Lib.hid ((bal HB.out _).trans hb2); clear ho hb2; go_loud (obtain ⟨ua, uc, hus⟩ := HO2.out.shape; rw [HM2.out] at hus; subst hus; have hp0 : 0 < (M ++ [(k : Int)]).length := (by rw [HM2.out]; omega); have hpk : k < (M ++ [(k : Int)]).length := (by rw [HM2.out]; omega); have hcs := HO2.out.cells hp0; obtain ⟨g, hg, hgB, hcl, hst⟩ := hcs; subst hg; have hck := hcl k hpk; obtain ⟨hr0, hf0⟩ := hck; clear hp0 hpk; have HST := Lib.hid (hst k y hyb); clear hcl hst))
        go_roundw
        case rel => exact ⟨k + 1, (M ++ [(k : Int)]).set k y, by omega, by rw [List.length_set, HM2.out], by go_num, HST, Lib.hid (bset HB2.out _ _ _ hgB)⟩
        case measure => simp [intOf]; omega
    · obtain rfl : k = N := by omega
      go_wp2
      go_ret
      exact ⟨M, _, by have := HMK.out; omega, rfl, HO.out.rd, HB.out⟩
end Go.Proofs.Ytbppdbfjhdhehaa
