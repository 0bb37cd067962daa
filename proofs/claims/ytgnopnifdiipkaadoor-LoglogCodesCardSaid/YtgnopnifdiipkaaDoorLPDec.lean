/- The contract of loglog.Decode. -/
import Derived.Test.YtgnopnifdiipkaaDoorLPVal
import Derived.Test.YtgnopnifdiipkaaDoorLPkF
import Derived.Test.YtgnopnifdiipkaaDoorRLDecN
namespace Go.Proofs.YtgnopnifdiipkaaDoor
open Go.RowKit
set_option linter.unusedVariables false
set_option linter.unusedSimpArgs false
theorem decW_used (L : List Int) : 0 ≤ (decW L).2.1 ∧ (decW L).2.1 ≤ (L.length : Int) := by
  unfold decW
  split
  · simp
  · simp
    omega
theorem cells8_len' (L : List Int) : (cells8 L).length = L.length := by simp [cells8]
theorem splice_pad {R : List Int} (h : R.length ≤ 256) : splice (cells8 zero256) 0 (cells8 R) = cells8 (padK R R.length) := by
  unfold splice padK zero256
  rw [List.take_zero, List.nil_append, Nat.zero_add, cells8_len', cells8_app, List.take_length]
  congr 1
  unfold cells8
  rw [← List.map_drop, List.drop_replicate]
theorem src_cells {R : List Int} {a2 : Option Addr} {c2 : Nat} {w : World} (h : Rd R (.slice a2 R.length c2) w) (hp : 0 < (cells8 R).length) : ∃ ad, a2 = some ad ∧ ∀ j v, (cells8 R)[j]? = some v → w.cell? (ad.add j) = some v := by
  obtain ⟨_, a', c', he, _, _, hc⟩ := h
  simp only [Value.slice.injEq, true_and] at he
  obtain ⟨rfl, rfl⟩ := he
  rw [cells8_len'] at hp
  obtain ⟨b, off, rfl, _, hcell⟩ := hc hp
  refine ⟨_, rfl, fun j v hv => ?_⟩
  have hj : j < R.length := by
    have := (List.getElem?_eq_some_iff.1 hv).1
    rwa [cells8_len'] at this
  rw [cells8_at hj] at hv
  rw [Addr.add_mid, hcell j hj]
  exact hv
theorem oneCell_8 (R : List Int) : ∀ v ∈ cells8 R, v.oneCell' = true := fun v hv => by
  obtain ⟨n, _, rfl⟩ := List.mem_map.1 hv
  rfl
theorem pk_new2 (w : World) (o : Obj) : ((w.alloc o).alloc (.cells Tryd.zeroCells68 68)).heap[w.heap.size + 1]? = some (.cells (cells8 zero256).toArray 68 (0, 0)) := by
  rw [heap_alloc2_new, zero_pk]
  rfl
set_option maxRecDepth 100000 in
set_option maxHeartbeats 4000000 in
theorem ldec_any (L : List Int) (v : Value) (w : World) (hr : Rd L v w) :
    Calls Tryd.prog 29 #[v] w fun e w' => ∃ u, e = .returned (.tuple #[u, .int .i64 (decLE L)]) ∧ OwnL w.heap.size (decL L) u w' ∧ Below w.heap.size w w' := by
  have C0 := Lib.hid (LSt.new 0 0 (.slice none 0 0) 26 w)
  have B0 := Lib.hid (b1 (a := w) (.cells #[.int .i64 0, .int .u64 0, .slice none 0 0] 26))
  have hd := fun (w' : World) (hb : Below w.heap.size w w') => decUint_any L v w' (hr.below hb)
  obtain ⟨a, len, cap, rfl⟩ : ∃ a len cap, v = .slice a len cap := by
    obtain ⟨_, a, cap, hv, _⟩ := hr
    exact ⟨a, _, cap, hv⟩
  by_cases hU : (decU L).2.2 = 0
  · rw [hU] at hd
    have hk1 := decU_bd hr.1
    have ht1 := fun w' => tlV_run hr (decU L).2.1.toNat (by omega) w'
    rw [show (((decU L).2.1.toNat : Nat) : Int) = (decU L).2.1 by omega] at ht1
    have hT1 : Rd (restU L) (tlV (.slice a len cap) (decU L).2.1.toNat) w := hr.tl (decU L).2.1.toNat (by omega)
    generalize tlV (.slice a len cap) (decU L).2.1.toNat = v1 at *
    have hd2 := fun (w' : World) (hb : Below w.heap.size w w') => decWord_any (restU L) v1 w' (hT1.below hb)
    have hP : (decU L).1 = dlP L := rfl
    have hX : (decW (restU L)).1 = dlX L := rfl
    rw [hP] at hd
    rw [hX] at hd2
    by_cases hW : (decW (restU L)).2.2 = 0
    · rw [hW] at hd2
      have hk2 := decW_used (restU L)
      have ht2 := fun w' => tlV_run hT1 (decW (restU L)).2.1.toNat (by omega) w'
      rw [show (((decW (restU L)).2.1.toNat : Nat) : Int) = (decW (restU L)).2.1 by omega] at ht2
      have hT2 : Rd (dlR L) (tlV v1 (decW (restU L)).2.1.toNat) w := hT1.tl (decW (restU L)).2.1.toNat (by omega)
      generalize tlV v1 (decW (restU L)).2.1.toNat = v2 at *
      obtain ⟨a2, c2, hv2⟩ : ∃ a2 c2, v2 = .slice a2 (dlR L).length c2 := by
        obtain ⟨_, a, cap, hv, _⟩ := hT2
        exact ⟨a, cap, hv⟩
      subst hv2
      have hml : (dlR L).length ≤ maxLen := by
        obtain ⟨_, _, cap, hv, h1, h2, _⟩ := hT2
        omega
      have hnew := fun (w' : World) => lnew_any (dlP L) (dlX L) w'
      by_cases hpr : prB (dlP L) = true
      · have hdl : dlOk L = true ↔ (dlR L).length = llN (dlP L) ∧ llE (dlP L) (dlR L) = 0 := by
          rw [dlOk_iff]
          constructor
          · rintro ⟨h1, _, _, h2, h3⟩
            exact ⟨h2, llE_mk h1 h2 h3⟩
          · rintro ⟨h2, h3⟩
            obtain ⟨o1, o2, o3⟩ := llE_ok h3
            exact ⟨o1, hU, hW, o2, o3⟩
        have hP8 := (prB_iff _).1 hpr
        have hN := llN_bd hP8
        rw [show newL (dlP L) (dlX L) = ⟨dlP L, dlX L, List.replicate (llN (dlP L)) 0⟩ by unfold newL; rw [if_pos hpr], show newLE (dlP L) = 0 by unfold newLE; rw [if_pos hpr]] at hnew
        unfold OwnL at hnew
        dsimp only at hnew
        by_cases hlen : (dlR L).length = llN (dlP L)
        · have hres : ∀ c, decL L = c → decLE L = (if llE (dlP L) (dlR L) = 0 then 0 else 2) ∧ c = (if llE (dlP L) (dlR L) = 0 then ⟨dlP L, dlX L, dlR L⟩ else LL.none) := by
            rintro c rfl
            by_cases hE : llE (dlP L) (dlR L) = 0
            · obtain ⟨e1, e2⟩ := decL_yes (hdl.2 ⟨hlen, hE⟩)
              rw [if_pos hE, if_pos hE]
              exact ⟨e2, e1⟩
            · obtain ⟨e1, e2⟩ := decL_no (L := L) (by
                by_cases hq : dlOk L = true
                · exact absurd (hdl.1 hq).2 hE
                · simpa using hq)
              rw [if_neg hE, if_neg hE]
              exact ⟨e2, e1⟩
          obtain ⟨r1, r2⟩ := hres _ rfl
          rw [r1, r2]
          clear r1 r2 hres hdl
          have HRD := Lib.hid (fun (w' : World) (hb : Below w.heap.size w w') => hT2.below hb)
          have HRL := Lib.hid hlen
          have hRl : (dlR L).length ≤ 256 := by omega
          have hRi : ((dlR L).length : Int) ≤ 256 := by omega
          have HSP := Lib.hid (splice_pad hRl)
          have HPB := Lib.hid (show Byt (padK (dlR L) (dlR L).length) from padK_byt (fun j => Byt.at_ hT2.1 j))
          have HPL := Lib.hid (padK_len (Nat.le_refl (dlR L).length) hRl)
          have HPT := Lib.hid (padK_take hRl)
          have hun := fun g Z (w' : World) (h : PkAt g Z w') => lunpack_any (dlP L) g Z w' h hP8
          rw [← hlen] at hun hnew hN
          have HUN := Lib.hid hun
          have HV := Lib.hid (fun (w' : World) (a' : Option Addr) (n' c' : Nat) (h : RdI (dlR L) (.slice a' n' c') w') => lval_any (dlP L) (dlX L) (dlR L) a' n' c' w' h)
          clear hpr hP8 hT1 hT2 hU hW hP hX hk1 hk2 hun hlen hml hr
          generalize dlP L = P at *
          generalize dlX L = x at *
          generalize dlR L = R at *
          generalize padK R R.length = Z at *
          generalize (decU L).2.1 = k1 at *
          generalize (decW (restU L)).2.1 = k2 at *
          have hzz : ∀ (w : World) o, (w.alloc o).heap.size = w.heap.size + 1 := fun w o => by simp
          have HZZ := Lib.hid hzz
          clear hzz
          have HE0 : Hid (∀ (w' : World) (a' : Option Addr) (n' c' : Nat), RdI R (.slice a' n' c') w' → Calls Tryd.prog 21 #[.agg #[.int .i64 P, .int .u64 x, .slice a' n' c']] w' fun e w'' => e = .returned (.int .i64 (llE P R)) ∧ Below w'.heap.size w' w'') := HV
          obtain ⟨E, hE⟩ : ∃ E, llE P R = E := ⟨_, rfl⟩
          rw [hE] at HE0 ⊢
          have hE3 : E = 0 ∨ (E != 0) = true := by
            by_cases h : E = 0
            · exact .inl h
            · exact .inr (by simpa using h)
          clear HV hE
          rcases hE3 with rfl | hE2
          · rw [if_pos rfl, if_pos rfl]
            go_enter Tryd.func29, Tryd.ntmps29
            go_wp2_with (first
              | (go_at_call 54; (with_reducible refine (hd _ B0.out).mono ?_); rintro e w' ⟨rfl, rfl⟩; clear hd)
              | (go_at_call 55; (with_reducible refine (hd2 _ B0.out).mono ?_); rintro e w' ⟨rfl, rfl⟩; clear hd2)
              | (go_at_call 11; (with_reducible refine (hnew _).mono ?_); rintro e w5 ⟨v5, rfl, ⟨a5, n5, c5, rfl, ho5⟩, hb5⟩; have B5 := Lib.hid (bgo B0.out hb5); have C5 := Lib.hid (C0.out.below hb5 (by simp)); obtain ⟨a5', c5', he5⟩ := ho5.rd.shape; simp only [Value.slice.injEq, List.length_replicate] at he5; obtain ⟨rfl, rfl, rfl⟩ := he5; obtain ⟨⟨q0, q1, q2⟩, f0, f1, f2⟩ := C5.out; clear hnew ho5 hb5 B0 C0)
              | (go_at_call 46; go_loud (with_reducible refine (HUN.out _ _ _ K6.out).mono ?_); go_loud (rintro e w7 ⟨v7, rfl, ho7, hb7⟩); go_loud (have hs6 := K6.out.size); go_loud (have B7 := Lib.hid (bgo B6.out hb7)); go_loud (have C7 := Lib.hid (C6.out.below hb7 (by omega))); go_loud (have G7 := Lib.hid (G6.out.below hb7 (by omega))); go_loud (rw [HPT.out] at ho7); go_loud (have O7 := Lib.hid (ho7.keep (b := w5.heap.size) (by omega) 2 v7)); go_loud (obtain ⟨a7, c7, rfl⟩ := ho7.rd.shape); go_loud (obtain ⟨⟨q0, q1, q2⟩, f0, f1, f2⟩ := G7.out); go_loud (have C8 := Lib.hid (C7.out.far (b := w5.heap.size) (by omega) 2 (.slice a7 R.length c7))); go_loud (have G8 := Lib.hid (G7.out.setV (.slice a7 R.length c7))); go_loud (have B8 := Lib.hid (bset B7.out w5.heap.size 2 (.slice a7 R.length c7) (by omega))); go_loud (clear ho7 hb7 K6 B6 C6 G6))
              | (go_at_call 21; (with_reducible refine (HE0.out _ _ _ _ O7.out.rd).mono ?_); rintro e w9 ⟨rfl, hb9⟩; have O9 := Lib.hid (O7.out.below hb9); have B9 := Lib.hid (bgo B8.out hb9); have hs8 := G8.out.size; have C9 := Lib.hid (C8.out.below hb9 (by omega)); have G9 := Lib.hid (G8.out.below hb9 hs8); clear q0 q1 q2 f0 f1 f2; obtain ⟨⟨q0, q1, q2⟩, f0, f1, f2⟩ := G9.out; obtain ⟨⟨r0, r1, r2⟩, g0, g1, g2⟩ := C9.out; clear hb9 O7 B8 C8 G8 B7 C7 G7)
              | ((refine wpList_copy_splice rfl _ _ _ _ rfl 5 Tryd.underlying48 (by kernel_rfl) _ _ _ _ _ _ rfl rfl (w5.heap.size + 1) 0 (cells8 zero256) 68 (pk_new2 _ _) (cells8 R) (by rw [cells8_len']; exact (Nat.min_eq_left hRl).symm) (fun hp => ⟨rfl, src_cells (HRD.out _ (bal (bal B5.out _) _)) hp⟩) (by rw [cells8_len', cells8_len', Nat.zero_add]; exact hRl) (oneCell_8 R) (w5.heap.size + 1) _ (Below.refl _ _) (Nat.le_refl _) ?_); intro w6 hg6 hb6; have K6 : Hid (PkAt (w5.heap.size + 1) Z w6) := Lib.hid ⟨⟨HPB.out, HPL.out⟩, _, by unfold pkA; rw [← HSP.out]; exact hg6.out⟩; have G5 := LSt.new P x (.slice a5 R.length c5) 26 w5; have hs5 := C5.out.size; have G6 := Lib.hid ((G5.below (b1 (.cells Tryd.zeroCells68 68)) (by simp)).below hb6 (Nat.lt_succ_self _)); have C6 := Lib.hid (((C5.out.below (b1 _) hs5).below (b1 (.cells Tryd.zeroCells68 68)) (by simp; omega)).below hb6 (by omega)); have B6 := Lib.hid ((bal (bal B5.out _) _).trans (hb6.mono (show w.heap.size ≤ w5.heap.size + 1 by omega))); clear hg6 hb6 G5 q0 q1 q2 f0 f1 f2 C5 B5))
            refine bodyPost_ret (v := .tuple #[.agg #[.int .i64 P, .int .u64 x, .slice a7 R.length c7], .int .i64 0]) (by simp [results, Tryd.results29, go_sem, *]) rfl ⟨_, rfl, ⟨_, _, _, rfl, (OwnI.keep3 (k := w.heap.size) O9.out (by omega) _ _ _).mono (by omega)⟩, ?_⟩
            exact bset3 B9.out _ (by omega) _ _ _
          · have hEn : ¬ E = 0 := by simpa using hE2
            rw [if_neg hEn, if_neg hEn]
            clear hEn
            go_enter Tryd.func29, Tryd.ntmps29
            go_wp2_with (first
              | (go_at_call 54; (with_reducible refine (hd _ B0.out).mono ?_); rintro e w' ⟨rfl, rfl⟩; clear hd)
              | (go_at_call 55; (with_reducible refine (hd2 _ B0.out).mono ?_); rintro e w' ⟨rfl, rfl⟩; clear hd2)
              | (go_at_call 11; (with_reducible refine (hnew _).mono ?_); rintro e w5 ⟨v5, rfl, ⟨a5, n5, c5, rfl, ho5⟩, hb5⟩; have B5 := Lib.hid (bgo B0.out hb5); have C5 := Lib.hid (C0.out.below hb5 (by simp)); obtain ⟨a5', c5', he5⟩ := ho5.rd.shape; simp only [Value.slice.injEq, List.length_replicate] at he5; obtain ⟨rfl, rfl, rfl⟩ := he5; obtain ⟨⟨q0, q1, q2⟩, f0, f1, f2⟩ := C5.out; clear hnew ho5 hb5 B0 C0)
              | (go_at_call 46; go_loud (with_reducible refine (HUN.out _ _ _ K6.out).mono ?_); go_loud (rintro e w7 ⟨v7, rfl, ho7, hb7⟩); go_loud (have hs6 := K6.out.size); go_loud (have B7 := Lib.hid (bgo B6.out hb7)); go_loud (have C7 := Lib.hid (C6.out.below hb7 (by omega))); go_loud (have G7 := Lib.hid (G6.out.below hb7 (by omega))); go_loud (rw [HPT.out] at ho7); go_loud (have O7 := Lib.hid (ho7.keep (b := w5.heap.size) (by omega) 2 v7)); go_loud (obtain ⟨a7, c7, rfl⟩ := ho7.rd.shape); go_loud (obtain ⟨⟨q0, q1, q2⟩, f0, f1, f2⟩ := G7.out); go_loud (have C8 := Lib.hid (C7.out.far (b := w5.heap.size) (by omega) 2 (.slice a7 R.length c7))); go_loud (have G8 := Lib.hid (G7.out.setV (.slice a7 R.length c7))); go_loud (have B8 := Lib.hid (bset B7.out w5.heap.size 2 (.slice a7 R.length c7) (by omega))); go_loud (clear ho7 hb7 K6 B6 C6 G6))
              | (go_at_call 21; (with_reducible refine (HE0.out _ _ _ _ O7.out.rd).mono ?_); rintro e w9 ⟨rfl, hb9⟩; have O9 := Lib.hid (O7.out.below hb9); have B9 := Lib.hid (bgo B8.out hb9); have hs8 := G8.out.size; have C9 := Lib.hid (C8.out.below hb9 (by omega)); have G9 := Lib.hid (G8.out.below hb9 hs8); clear q0 q1 q2 f0 f1 f2; obtain ⟨⟨q0, q1, q2⟩, f0, f1, f2⟩ := G9.out; obtain ⟨⟨r0, r1, r2⟩, g0, g1, g2⟩ := C9.out; clear hb9 O7 B8 C8 G8 B7 C7 G7)
              | ((refine wpList_copy_splice rfl _ _ _ _ rfl 5 Tryd.underlying48 (by kernel_rfl) _ _ _ _ _ _ rfl rfl (w5.heap.size + 1) 0 (cells8 zero256) 68 (pk_new2 _ _) (cells8 R) (by rw [cells8_len']; exact (Nat.min_eq_left hRl).symm) (fun hp => ⟨rfl, src_cells (HRD.out _ (bal (bal B5.out _) _)) hp⟩) (by rw [cells8_len', cells8_len', Nat.zero_add]; exact hRl) (oneCell_8 R) (w5.heap.size + 1) _ (Below.refl _ _) (Nat.le_refl _) ?_); intro w6 hg6 hb6; have K6 : Hid (PkAt (w5.heap.size + 1) Z w6) := Lib.hid ⟨⟨HPB.out, HPL.out⟩, _, by unfold pkA; rw [← HSP.out]; exact hg6.out⟩; have G5 := LSt.new P x (.slice a5 R.length c5) 26 w5; have hs5 := C5.out.size; have G6 := Lib.hid ((G5.below (b1 (.cells Tryd.zeroCells68 68)) (by simp)).below hb6 (Nat.lt_succ_self _)); have C6 := Lib.hid (((C5.out.below (b1 _) hs5).below (b1 (.cells Tryd.zeroCells68 68)) (by simp; omega)).below hb6 (by omega)); have B6 := Lib.hid ((bal (bal B5.out _) _).trans (hb6.mono (show w.heap.size ≤ w5.heap.size + 1 by omega))); clear hg6 hb6 G5 q0 q1 q2 f0 f1 f2 C5 B5))
            refine bodyPost_ret (v := .tuple #[.agg #[.int .i64 0, .int .u64 0, .slice none 0 0], .int .i64 2]) (by simp [results, Tryd.results29, go_sem, *]) rfl ⟨_, rfl, noneL_own _ _, ?_⟩
            exact bset3 B9.out _ (by omega) _ _ _
        · obtain ⟨e1, e2⟩ := decL_no (L := L) (by
            by_cases hq : dlOk L = true
            · exact absurd (hdl.1 hq).1 hlen
            · simpa using hq)
          rw [e1, e2]
          have hln : (((dlR L).length : Int) != ((llN (dlP L) : Nat) : Int)) = true := by simp; omega
          obtain ⟨hN0, hN1⟩ := hN
          have hRi : ((dlR L).length : Int) ≤ 9223372036854775807 := by unfold maxLen at hml; omega
          clear e1 e2 hdl hlen hpr hP8 hT1 hT2 hU hW hP hX hk1 hk2 hml hr
          generalize dlP L = P at *
          generalize dlX L = x at *
          generalize (dlR L).length = R at *
          generalize (decU L).2.1 = k1 at *
          generalize (decW (restU L)).2.1 = k2 at *
          generalize llN P = M at *
          go_enter Tryd.func29, Tryd.ntmps29
          go_wp2_with (first
            | (go_at_call 54; (with_reducible refine (hd _ B0.out).mono ?_); rintro e w' ⟨rfl, rfl⟩; clear hd)
            | (go_at_call 55; (with_reducible refine (hd2 _ B0.out).mono ?_); rintro e w' ⟨rfl, rfl⟩; clear hd2)
            | (go_at_call 11; (with_reducible refine (hnew _).mono ?_); rintro e w5 ⟨v5, rfl, ⟨a5, n5, c5, rfl, ho5⟩, hb5⟩; have B5 := Lib.hid (bgo B0.out hb5); have C5 := Lib.hid (C0.out.below hb5 (by simp)); obtain ⟨a5', c5', he5⟩ := ho5.rd.shape; simp only [Value.slice.injEq, List.length_replicate] at he5; obtain ⟨rfl, rfl, rfl⟩ := he5; obtain ⟨⟨q0, q1, q2⟩, f0, f1, f2⟩ := C5.out; have hs5 : w.heap.size < w5.heap.size := C5.out.size; clear hnew ho5 hb5 B0 C0))
          refine bodyPost_ret (v := .tuple #[.agg #[.int .i64 0, .int .u64 0, .slice none 0 0], .int .i64 2]) (by simp [results, Tryd.results29, go_sem, *]) rfl ⟨_, rfl, noneL_own _ _, ?_⟩
          exact bal (bset3 B5.out w.heap.size (Nat.le_refl _) _ _ _) _
      · have hpr' : prB (dlP L) = false := by simpa using hpr
        obtain ⟨e1, e2⟩ := decL_no (L := L) (dlOk_no fun h => by
          rw [(prB_iff _).2 h.1] at hpr'
          cases hpr')
        rw [e1, e2]
        rw [show newL (dlP L) (dlX L) = LL.none by unfold newL; rw [if_neg hpr], show newLE (dlP L) = 5 by unfold newLE; rw [if_neg hpr]] at hnew
        unfold OwnL LL.none at hnew
        dsimp only at hnew
        clear e1 e2 hpr hpr' hT1 hT2 hU hW hP hX hk1 hk2 hml hr
        generalize dlP L = P at *
        generalize dlX L = x at *
        generalize (dlR L).length = R at *
        generalize (decU L).2.1 = k1 at *
        generalize (decW (restU L)).2.1 = k2 at *
        go_enter Tryd.func29, Tryd.ntmps29
        go_wp2_with (first
          | (go_at_call 54; (with_reducible refine (hd _ B0.out).mono ?_); rintro e w' ⟨rfl, rfl⟩; clear hd)
          | (go_at_call 55; (with_reducible refine (hd2 _ B0.out).mono ?_); rintro e w' ⟨rfl, rfl⟩; clear hd2)
          | (go_at_call 11; (with_reducible refine (hnew _).mono ?_); rintro e w5 ⟨v5, rfl, ⟨a5, n5, c5, rfl, ho5⟩, hb5⟩; have B5 := Lib.hid (bgo B0.out hb5); have C5 := Lib.hid (C0.out.below hb5 (by simp)); obtain ⟨⟨q0, q1, q2⟩, f0, f1, f2⟩ := C5.out; have hs5 : w.heap.size < w5.heap.size := C5.out.size; clear hnew ho5 hb5 B0 C0))
        refine bodyPost_ret (v := .tuple #[.agg #[.int .i64 0, .int .u64 0, .slice none 0 0], .int .i64 2]) (by simp [results, Tryd.results29, go_sem, *]) rfl ⟨_, rfl, noneL_own _ _, ?_⟩
        exact bal (bset3 B5.out w.heap.size (Nat.le_refl _) _ _ _) _
    · obtain ⟨e1, e2⟩ := decL_no (L := L) (dlOk_no fun h => hW h.2.2.1)
      rw [e1, e2]
      have hW2 : ((decW (restU L)).2.2 != 0) = true := by simpa using hW
      obtain ⟨⟨q0, q1, q2⟩, f0, f1, f2⟩ := C0.out
      clear e1 e2 hT1 hU hW hP hX hk1 hr
      generalize dlP L = P at *
      generalize dlX L = x at *
      generalize (decU L).2.1 = k1 at *
      generalize (decW (restU L)).2.1 = k2 at *
      generalize (decW (restU L)).2.2 = E at *
      go_enter Tryd.func29, Tryd.ntmps29
      go_wp2_with (first
        | (go_at_call 54; (with_reducible refine (hd _ B0.out).mono ?_); rintro e w' ⟨rfl, rfl⟩; clear hd)
        | (go_at_call 55; (with_reducible refine (hd2 _ B0.out).mono ?_); rintro e w' ⟨rfl, rfl⟩; clear hd2))
      refine bodyPost_ret (v := .tuple #[.agg #[.int .i64 0, .int .u64 0, .slice none 0 0], .int .i64 2]) (by simp [results, Tryd.results29, go_sem, *]) rfl ⟨_, rfl, noneL_own _ _, ?_⟩
      first | exact B0.out | exact bset3 B0.out _ (Nat.le_refl _) _ _ _
  · obtain ⟨e1, e2⟩ := decL_no (L := L) (dlOk_no fun h => hU h.2.1)
    rw [e1, e2]
    have hU2 : ((decU L).2.2 != 0) = true := by simpa using hU
    obtain ⟨⟨q0, q1, q2⟩, f0, f1, f2⟩ := C0.out
    clear e1 e2 hU hr
    generalize (decU L).1 = P at *
    generalize (decU L).2.1 = k1 at *
    generalize (decU L).2.2 = E at *
    go_enter Tryd.func29, Tryd.ntmps29
    go_wp2_with (go_at_call 54; (with_reducible refine (hd _ B0.out).mono ?_); rintro e w' ⟨rfl, rfl⟩; clear hd)
    refine bodyPost_ret (v := .tuple #[.agg #[.int .i64 0, .int .u64 0, .slice none 0 0], .int .i64 2]) (by simp [results, Tryd.results29, go_sem, *]) rfl ⟨_, rfl, noneL_own _ _, ?_⟩
    first | exact B0.out | exact bset3 B0.out _ (Nat.le_refl _) _ _ _
end Go.Proofs.YtgnopnifdiipkaaDoor
