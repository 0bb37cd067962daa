/- The contract of the reference's Unframe. -/
import Derived.Test.YtnlboecmcgjmjaaWireFacts
namespace Go.Proofs.Ytnlboecmcgjmjaa
open Go.RowKit
set_option linter.unusedVariables false
set_option linter.unusedSimpArgs false
/-- What lies ahead of the checksum is the frame of the body that is read. -/
theorem frame_is {L : List Int} {K N : Nat} (hy : Byt L) (hl : ¬ L.length = 0) (h : ((0 : Int) = 0) → uintB ((N : Int)).toNat = (L.drop 1).take ((K : Int)).toNat) (hlen : 1 + K + N ≤ L.length) :
    headB (L.getD 0 0) ((L.take (1 + K + N)).drop (1 + K)) = L.take (1 + K + N) := by
  have h := h rfl
  rw [Int.toNat_natCast, Int.toNat_natCast] at h
  have hB : ((L.take (1 + K + N)).drop (1 + K)).length = N := by simp; omega
  unfold headB
  rw [hB, h]
  have e1 : L.take (1 + K + N) = (L.take (1 + K + N)).take (1 + K) ++ (L.take (1 + K + N)).drop (1 + K) := (List.take_append_drop _ _).symm
  rw [List.take_take, Nat.min_eq_left (by omega)] at e1
  have e2 : L.take (1 + K) = L.getD 0 0 :: (L.drop 1).take K := by
    have h1 : L = L.getD 0 0 :: L.drop 1 := by
      cases L with
      | nil => simp at hl
      | cons a l => rfl
    rw [Nat.add_comm 1 K]
    calc L.take (K + 1) = (L.getD 0 0 :: L.drop 1).take (K + 1) := by rw [← h1]
      _ = _ := List.take_succ_cons
  rw [e2] at e1
  rw [List.cons_append] at e1
  exact e1.symm
theorem unfr2_good {L : List Int} {S N : Nat} (hl : S + N + 4 ≤ L.length) (hy : Byt L) (h : ∀ j, j < 4 → (be (adlerN (L.take (S + N))) 4).getD j 0 = L.getD (S + N + j) 0) :
    unfr2 L S N = (L.getD 0 0, (L.take (S + N)).drop S, ((S + N + 4 : Nat) : Int), 0) := by
  have e : (L.take (S + N + 4)).drop (S + N) = be (adlerN (L.take (S + N))) 4 := by
    apply List.ext_getElem?
    intro j
    by_cases hj : j < 4
    · have h1 := h j hj
      rw [List.getElem?_drop, List.getElem?_take, if_pos (by omega)]
      have a1 : (be (adlerN (L.take (S + N))) 4)[j]? = some ((be (adlerN (L.take (S + N))) 4).getD j 0) := by simp [List.getD, be_len, hj]
      have a2 : L[S + N + j]? = some (L.getD (S + N + j) 0) := by simp [List.getD, show S + N + j < L.length by omega]
      rw [a1, a2, h1]
    · rw [List.getElem?_eq_none (by simp; omega), List.getElem?_eq_none (by rw [be_len]; omega)]
  unfold unfr2
  rw [e, val_be _ 4 (by have := adlerN_bd (L.take (S + N)); have h4 : (256 : Nat) ^ 4 = 4294967296 := by decide
                        omega), if_neg (by simp)]
theorem unfr2_bad {L : List Int} {S N : Nat} (hl : S + N + 4 ≤ L.length) (hy : Byt L) (j : Nat) (hj : j < 4) (h : (be (adlerN (L.take (S + N))) 4).getD j 0 ≠ L.getD (S + N + j) 0) :
    unfr2 L S N = (0, [], 0, 4) := by
  unfold unfr2
  rw [if_pos]
  intro he
  have hyD : Byt ((L.take (S + N + 4)).drop (S + N)) := (hy.take _).drop _
  have hlen : ((L.take (S + N + 4)).drop (S + N)).length = 4 := by simp; omega
  have hb := be_val _ hyD
  rw [he, Int.toNat_natCast, hlen] at hb
  apply h
  rw [hb]
  simp only [List.getD, List.getElem?_drop, List.getElem?_take]
  rw [if_pos (by omega)]
set_option maxRecDepth 100000 in
set_option maxHeartbeats 1000000 in
theorem runframe_any (L : List Int) (v : Value) (w : World) (h : Rd L v w) :
    Calls Try.prog 26 #[v] w fun e w' => ∃ v', e = .returned (.tuple #[.int .u8 (unfr L).1, v', .int .i64 (unfr L).2.2.1, .int .i64 (unfr L).2.2.2]) ∧ Own w.heap.size (unfr L).2.1 v' w' ∧ Below w.heap.size w w' := by
  have h0 := h
  obtain ⟨hy, a, cap, rfl, h1, h2, h3⟩ := h
  unfold maxLen at h2
  by_cases hl : L.length = 0
  · unfold unfr
    rw [if_pos hl, hl]
    clear h3 h0
    go_enter Try.func26, Try.ntmps26
    go_wp2
    ((try simp only [Exit.inBlock, Exit.then]); refine bodyPost_ret (results_tmp4 rfl _ _ _) rfl ?_)
    exact ⟨_, rfl, Own.empty _ _, Below.refl _ _⟩
  · obtain ⟨b, off, rfl, hb, hcell⟩ := h3 (by omega)
    have hdd := fun (a' : Option Addr) (ha : 1 < cap → a' = some ⟨b, off + 1, none⟩) => rdecUint_any _ _ w (h0.drop 1 (Nat.one_le_iff_ne_zero.2 hl) a' ha (m := L.length - 1) (c := cap - 1) rfl rfl)
    obtain ⟨b0, b1, b2, b3, b4, b5, b6, b7⟩ := decU_bd (L := L.drop 1) (hy.drop 1)
    have hdl : (L.drop 1).length = L.length - 1 := by simp
    rw [hdl] at b3
    unfold unfr
    rw [if_neg hl]
    have hdec := fun h => decU_once (L := L.drop 1) (hy.drop 1) h
    generalize (decU (L.drop 1)).1 = n at *
    generalize (decU (L.drop 1)).2.1 = k at *
    generalize (decU (L.drop 1)).2.2 = e at *
    obtain ⟨N, rfl⟩ : ∃ N : Nat, n = (N : Int) := ⟨n.toNat, by omega⟩
    obtain ⟨K, rfl⟩ : ∃ K : Nat, k = (K : Int) := ⟨k.toNat, by omega⟩
    rw [Int.toNat_natCast, Int.toNat_natCast]
    have HR := Lib.hid h0
    have HC := Lib.hid hcell
    clear h0 hcell h3 hdl
    by_cases hc1 : cap = 1
    · subst hc1
      have hd := hdd (some ⟨b, off, none⟩) (fun h => by omega)
      have hl1 : L.length = 1 := by omega
      rw [hl1] at hd b3 ⊢
      have hK : K = 0 := by omega
      subst hK
      clear hdd HR HC
      by_cases he : e = 0
      · exfalso
        have := b7 he
        omega
      · have e0 : (e != 0) = true := by simp [he]
        rw [if_pos he]
        clear b7
        go_enter Try.func26, Try.ntmps26
        go_wp2_with (go_at_call 18; refine hd.mono ?_; rintro e w' ⟨rfl, rfl⟩)
        ((try simp only [Exit.inBlock, Exit.then]); refine bodyPost_ret (results_tmp4 rfl _ _ _) rfl ?_)
        exact ⟨_, rfl, Own.empty _ _, Below.refl _ _⟩
    · have hd := hdd (some ⟨b, off + 1, none⟩) (fun h => rfl)
      clear hdd
      by_cases he : e = 0
      · have e0 : (e != 0) = false := by simp [he]
        rw [if_neg (by simp [he])]
        subst he
        by_cases hn : 1048576 < (N : Int)
        · rw [if_pos hn]
          go_enter Try.func26, Try.ntmps26
          go_wp2_with (go_at_call 18; refine hd.mono ?_; rintro e w' ⟨rfl, rfl⟩)
          ((try simp only [Exit.inBlock, Exit.then]); refine bodyPost_ret (results_tmp4 rfl _ _ _) rfl ?_)
          exact ⟨_, rfl, Own.empty _ _, Below.refl _ _⟩
        · rw [if_neg hn]
          by_cases hc : (L.length : Int) < 5 + K + N
          · rw [if_pos hc]
            go_enter Try.func26, Try.ntmps26
            go_wp2_with (go_at_call 18; refine hd.mono ?_; rintro e w' ⟨rfl, rfl⟩)
            ((try simp only [Exit.inBlock, Exit.then]); refine bodyPost_ret (results_tmp4 rfl _ _ _) rfl ?_)
            exact ⟨_, rfl, Own.empty _ _, Below.refl _ _⟩
          · rw [if_neg hc]
            have hb7 := b7 rfl
            clear b7
            have c0 := HC.out 0 (by omega)
            rw [Nat.add_zero] at c0
            have hcd0 := hy.at_ 0
            have hs1 := HR.out.cut (1 + K) (1 + K + N) (by omega) (by omega) (some ⟨b, off + (1 + K), none⟩) (fun _ => rfl) (m := N) (c := cap - (1 + K)) (by omega) rfl
            have hB1 : ((L.take (1 + K + N)).drop (1 + K)).length = N := by simp; omega
            have hfr := frame_is hy hl hdec (by omega)
            have hA2 := adlerN_bd (L.take (1 + K + N))
            have hun : ∀ j, j < 4 → w.cell? ⟨b, off + (1 + K + N + j), none⟩ = some (.int .u8 (L.getD (1 + K + N + j) 0)) := fun j hj => HC.out _ (by omega)
            obtain ⟨r, hr⟩ : ∃ r, r = unfr2 L (1 + K) N := ⟨_, rfl⟩
            rw [← hr]
            have hbad := fun j hj h => hr.trans (unfr2_bad (L := L) (S := 1 + K) (N := N) (by omega) hy j hj h)
            have hgood := fun h => hr.trans (unfr2_good (L := L) (S := 1 + K) (N := N) (by omega) hy h)
            have hf := fun (v : Value) (w1 : World) (h : Rd ((L.take (1 + K + N)).drop (1 + K)) v w1) => rframe_any (L.getD 0 0) _ v w1 hcd0 h
            unfold frameB frameE at hf
            rw [hB1, if_pos (by omega), if_pos (by omega), hfr] at hf
            have hsz : ((L.take (1 + K + N)) ++ be (adlerN (L.take (1 + K + N))) 4).length = 1 + K + N + 4 := by rw [List.length_append, be_len]; simp; omega
            have hat : ∀ j, j < 4 → ((L.take (1 + K + N)) ++ be (adlerN (L.take (1 + K + N))) 4).getD (1 + K + N + j) 0 = (be (adlerN (L.take (1 + K + N))) 4).getD j 0 := fun j hj => by
              have hl2 : (L.take (1 + K + N)).length = 1 + K + N := by simp; omega
              simp only [List.getD]
              rw [List.getElem?_append_right (by omega), hl2, Nat.add_sub_cancel_left]
            generalize (L.take (1 + K + N)).drop (1 + K) = B1 at *
            generalize adlerN (L.take (1 + K + N)) = A2 at *
            generalize hFF : L.take (1 + K + N) ++ be A2 4 = FF at *
            generalize L.getD 0 0 = c at *
            have H1 := Lib.hid hs1
            have HF := Lib.hid hf
            have HU := Lib.hid hun
            have HBAD := Lib.hid hbad
            have HGOOD := Lib.hid hgood
            have HSZ := Lib.hid hsz
            have HAT := Lib.hid hat
            have HBL := Lib.hid hB1
            clear hs1 hf hun hbad hgood hr hsz hat hB1 HR HC hfr hdec
            have ht1 : (1 + (K : Int)).toNat = 1 + K := by omega
            have ht2 : (1 + (K : Int) + (N : Int)).toNat = 1 + K + N := by omega
            have htc : ¬ (cap = 1 + K) := by omega
            go_enter Try.func26, Try.ntmps26
            go_wp2_with (first
              | (go_at_call 18; refine hd.mono ?_; rintro e w' ⟨rfl, rfl⟩)
              | (at_builtin; refine wp_app rfl _ _ _ rfl w.heap.size [] B1 _ _ rfl rfl (Own.empty _ _) H1.out.src (Nat.le_refl _) ?c3 ?_))
            case c3 => rw [HBL.out]; simp; omega
            · intro v1 w1 ho1 hb1
              have hf1 := HF.out v1 w1 ho1.rd
              have c1 : w1.cell? ⟨b, off, none⟩ = some (.int .u8 c) := (hb1.cell hb).trans c0
              have HO1 := Lib.hid ho1
              have HB1 := Lib.hid hb1
              clear ho1 hb1
              go_wp2_with (go_at_call 24; refine hf1.mono ?_; rintro e w2 ⟨v2, rfl, ho2, hb2⟩; obtain ⟨fa, fc, rfl⟩ := ho2.shape; rw [HSZ.out] at *)
              have hfc : ∃ fb fo, fa = some ⟨fb, fo, none⟩ ∧ ∀ j, j < 4 → w2.cell? ⟨fb, fo + (1 + K + N + j), none⟩ = some (.int .u8 ((be A2 4).getD j 0)) := by
                obtain ⟨_, a', c', he', _, _, h3'⟩ := ho2.rd
                simp only [Value.slice.injEq] at he'
                obtain ⟨rfl, _, rfl⟩ := he'
                have hsz := HSZ.out
                obtain ⟨fb, fo, rfl, _, hcc⟩ := h3' (by omega)
                exact ⟨fb, fo, rfl, fun j hj => by rw [← HAT.out j hj]; exact hcc _ (by omega)⟩
              obtain ⟨fb, fo, rfl, hfc⟩ := hfc
              have hbW : Below w.heap.size w w2 := HB1.out.trans (hb2.mono HB1.out.size)
              have hu2 : ∀ j, j < 4 → w2.cell? ⟨b, off + (1 + K + N + j), none⟩ = some (.int .u8 (L.getD (1 + K + N + j) 0)) := fun j hj => (hbW.cell hb).trans (HU.out j hj)
              have cc : w2.cell? ⟨b, off, none⟩ = some (.int .u8 c) := (hbW.cell hb).trans c0
              have HFC := Lib.hid hfc
              have HU2 := Lib.hid hu2
              have HBW := Lib.hid hbW
              have HO2 := Lib.hid (HO1.out.below hb2)
              clear hfc hu2 hbW ho2 hb2 hf1 c1 c0 hd
              go_loopw [12] (fun i wr => ∃ j n : Nat, j ≤ 4 ∧ i = .int .i64 (1 + (K : Int) + (N : Int) + (j : Int)) ∧ (∀ t, t < j → (be A2 4).getD t 0 = L.getD (1 + K + N + t) 0) ∧ wr = w2.drewN n) (fun i _ => 1 + K + N + 4 - (intOf i).toNat)
              case atStart => exact ⟨0, 0, by omega, by go_num, fun t ht => by omega, rfl⟩
              case round =>
                obtain ⟨j, n, hj, rfl, heq, rfl⟩ := hrel
                by_cases hlt : j < 4
                · have f1 := HFC.out j hlt
                  have f2 := HU2.out j hlt
                  have hnx : (be A2 4).getD j 0 = L.getD (1 + K + N + j) 0 → ∀ t, t < j + 1 → (be A2 4).getD t 0 = L.getD (1 + K + N + t) 0 := fun h t ht => by
                    rcases Nat.lt_or_ge t j with h' | h'
                    · exact heq t h'
                    · obtain rfl : t = j := by omega
                      exact h
                  have hbd := HBAD.out j hlt
                  have HNX := Lib.hid hnx
                  have HBD := Lib.hid hbd
                  clear heq hnx hbd cc
                  generalize (be A2 4).getD j 0 = x at *
                  generalize L.getD (1 + K + N + j) 0 = y at *
                  have hi1 : 1 + (K : Int) + (N : Int) + (j : Int) < 1 + (K : Int) + (N : Int) + 4 := by omega
                  have hi2 : 1 + (K : Int) + (N : Int) + (j : Int) < (L.length : Int) := by omega
                  have hi3 : (0 : Int) ≤ 1 + (K : Int) + (N : Int) + (j : Int) := by omega
                  have hi4 : (1 + (K : Int) + (N : Int) + (j : Int)).toNat = 1 + K + N + j := by omega
                  by_cases hxy : x = y
                  · have hxy2 : (x != y) = false := by simp [hxy]
                    go_wp2_with fail
                    go_quiet (fail)
                    go_wp2
                    go_roundw
                    case rel => exact ⟨j + 1, _, by omega, by go_num, HNX.out hxy, rfl⟩
                    case measure => simp [intOf] <;> omega
                  · have hxy2 : (x != y) = true := by simp [hxy]
                    have hrr := HBD.out hxy
                    go_wp2_with fail
                    go_quiet (fail)
                    go_wp2_with fail
                    ((try simp only [Exit.inBlock, Exit.then]); refine bodyPost_ret (results_tmp4 rfl _ _ _) rfl ?_)
                    rw [hrr]
                    exact ⟨_, rfl, Own.empty _ _, below_drewN (below_drewN HBW.out n) nq⟩
                · obtain rfl : j = 4 := by omega
                  have hrr := HGOOD.out heq
                  have HRR := Lib.hid hrr
                  clear heq hrr
                  go_wp2_with fail
                  ((try simp only [Exit.inBlock, Exit.then]); refine bodyPost_ret (results_tmp4 rfl _ _ _) rfl ?_)
                  rw [HRR.out]
                  exact ⟨_, rfl, HO2.out, below_drewN HBW.out _⟩
      · have e0 : (e != 0) = true := by simp [he]
        rw [if_pos he]
        clear b7
        go_enter Try.func26, Try.ntmps26
        go_wp2_with (go_at_call 18; refine hd.mono ?_; rintro e w' ⟨rfl, rfl⟩)
        ((try simp only [Exit.inBlock, Exit.then]); refine bodyPost_ret (results_tmp4 rfl _ _ _) rfl ?_)
        exact ⟨_, rfl, Own.empty _ _, Below.refl _ _⟩
end Go.Proofs.Ytnlboecmcgjmjaa
