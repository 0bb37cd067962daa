/- The contract of countmin.Decode. -/
import Derived.Test.YtlbbmnjhohfbkaaCmDecN
import Derived.Test.YtlbbmnjhohfbkaaCmSto
import Derived.Deep.RegionHeld3
namespace Go.Proofs.Ytlbbmnjhohfbkaa
open Go.RowKit
set_option linter.unusedVariables false
set_option linter.unusedSimpArgs false
theorem OwnI.far {B b n c g : Nat} {L : List Int} {w : World} (h : OwnI B L (.slice (some ⟨b, 0, none⟩) n c) w) (hb : b ≠ g) (o : Nat) (u : Value) : OwnI B L (.slice (some ⟨b, 0, none⟩) n c) (w.setCell ⟨g, o, none⟩ u) :=
  ⟨h.1, ownsRow_setCell_other h.2 (by simp [Value.ownBlock, hb]) u⟩
/-- The state while the cells are read. -/
def DecL (W : World) (h g8 B b n cap : Nat) (d s x : Int) (R : List Int) (f : Bool) (k : Nat) (w : World) : Prop :=
  CSt h 0 0 0 (.slice none 0 0) false w ∧ DS W (h + 1) (rests R k) (failN f R k) w ∧ CSt g8 d s x (.slice (some ⟨b, 0, none⟩) n cap) false w ∧ OwnI B (cellsN R n k) (.slice (some ⟨b, 0, none⟩) n cap) w ∧ Below h W w
theorem DecL.drew {W : World} {h g8 B b n cap : Nat} {d s x : Int} {R : List Int} {f : Bool} {k : Nat} {w : World} (hl : DecL W h g8 B b n cap d s x R f k w) : DecL W h g8 B b n cap d s x R f k w.drew := ⟨hl.1, hl.2.1, hl.2.2.1, hl.2.2.2.1, hl.2.2.2.2.drew⟩
theorem DecL.step {W : World} {h g8 B b n cap : Nat} {d s x : Int} {R : List Int} {f : Bool} {k : Nat} {w w' : World} (hl : DecL W h g8 B b n cap d s x R f k w) (hB : h + 2 ≤ B) (hg : B ≤ g8) (hbg : b ≠ g8) (hk : k < n)
    (hd : DS W (h + 1) (restU (rests R k)) (failN f R k || (decU (rests R k)).2.2 != 0) w') (ho : Oth (h + 1) w w') :
    DecL W h g8 B b n cap d s x R f (k + 1) (w'.setCell ⟨b, k, none⟩ (.int .i64 (decU (rests R k)).1)) := by
  obtain ⟨h1, h2, h3, h4, h5⟩ := hl
  have h4' := h4.oth ho (by omega)
  obtain ⟨g', he, hge, hgs, hcl, hst⟩ := h4'.cells (by rw [cellsN_len (by omega)]; omega)
  simp only [Option.some.injEq, Addr.mk.injEq, and_true] at he
  subst he
  have hbd := decU_bd h2.byt
  have hs := hst k (decU (rests R k)).1 (by omega)
  rw [cellsN_set hk] at hs
  refine ⟨(h1.oth ho (by omega)).far (by omega) _ _, hd.keep (Below.heap_setCell w' ⟨b, k, none⟩ _ _ (show h + 1 ≠ b by omega)), (h3.oth ho (by omega)).far (Ne.symm hbg) _ _, hs, (h5.trans (ho.1.mono (by omega))).setCell (p := ⟨b, k, none⟩) (show h ≤ b by omega) _⟩
set_option maxRecDepth 100000 in
set_option maxHeartbeats 4000000 in
theorem cdec_any (L : List Int) (v : Value) (w : World) (h : Rd L v w) :
    Calls Try.prog 30 #[v] w fun e w' => ∃ u, e = .returned (.tuple #[u, .int .i64 (decE L)]) ∧ OwnC w.heap.size (decC L) u w' ∧ Below w.heap.size w w' := by
  obtain ⟨a, len, cap, rfl⟩ : ∃ a len cap, v = .slice a len cap := by
    obtain ⟨_, a, cap, hv, _⟩ := h
    exact ⟨a, _, cap, hv⟩
  have hz : ∀ (w : World) o, (w.alloc o).heap.size = w.heap.size + 1 := fun w o => by simp
  have C0 := Lib.hid ((CSt.new 0 0 0 (.slice none 0 0) false 26 w).below (b1 (.cells #[.slice a len cap, .bool false] 81)) (by simp))
  have D0 : Hid (DS w (w.heap.size + 1) L false ((w.alloc (.cells #[.int .i64 0, .int .i64 0, .int .u64 0, .slice none 0 0, .bool false] 26)).alloc (.cells #[.slice a len cap, .bool false] 81))) :=
    Lib.hid ⟨.slice a len cap, ⟨⟨by go_simp, by go_simp⟩, by go_simp, by go_simp⟩, h⟩
  have B0 := Lib.hid (b2 (a := w) (.cells #[.int .i64 0, .int .i64 0, .int .u64 0, .slice none 0 0, .bool false] 26) (.cells #[.slice a len cap, .bool false] 81))
  have HBD : Hid ((0 ≤ dD L ∧ dD L ≤ 4611686018427387904) ∧ (0 ≤ dS L ∧ dS L ≤ 4611686018427387904) ∧ 0 ≤ dX L ∧ dX L ≤ 18446744073709551615) := Lib.hid (by
    have hd := decU_bd h.1
    have hs := decU_bd (show Byt (restU L) from h.1.drop _)
    have hx := decW_bd (show Byt (restU (restU L)) from (show Byt (restU L) from h.1.drop _).drop _)
    unfold dD dS dX
    omega)
  have HR := Lib.hid h
  clear h
  obtain ⟨RES, hRES⟩ : ∃ r, decC L = r := ⟨_, rfl⟩
  obtain ⟨REE, hREE⟩ : ∃ r, decE L = r := ⟨_, rfl⟩
  rw [hRES, hREE]
  have HRES := Lib.hid hRES
  have HREE := Lib.hid hREE
  clear hRES hREE
  go_enter Try.func30, Try.ntmps30
  go_wp2_with fail
  go_at_call 57
  refine (dnum_any D0.out B0.out).mono ?_
  rintro e w2 ⟨rfl, hd2, ho2⟩
  have D2 := Lib.hid hd2
  have B2 := Lib.hid (B0.out.trans (ho2.1.mono (Nat.le_succ _)))
  have C2 := Lib.hid (C0.out.oth ho2 (by omega))
  clear hd2 ho2
  go_wp2_with fail
  go_at_call 57
  refine (dnum_any D2.out B2.out).mono ?_
  rintro e w3 ⟨rfl, hd3, ho3⟩
  have D3 := Lib.hid hd3
  have B3 := Lib.hid (B2.out.trans (ho3.1.mono (Nat.le_succ _)))
  have C3 := Lib.hid (C2.out.oth ho3 (by omega))
  clear hd3 ho3
  go_wp2_with fail
  go_at_call 58
  refine (dword_any D3.out B3.out).mono ?_
  rintro e w4 ⟨rfl, hd4, ho4⟩
  have D4 := Lib.hid (show DS w (w.heap.size + 1) (dR L) (dF L) w4 from hd4)
  have B4 := Lib.hid (B3.out.trans (ho4.1.mono (Nat.le_succ _)))
  have C4 := Lib.hid (C3.out.oth ho4 (by omega))
  clear hd4 ho4 C0 D0 B0 D2 B2 C2 D3 B3 C3
  obtain ⟨bd1, bd2, bd3⟩ := HBD.out
  have hcn := cnew_any (dD L) (dS L) (dX L) w4 (by omega) (by omega) (by omega) (by omega)
  have e1 : (decU L).1 = dD L := rfl
  have e2 : (decU (restU L)).1 = dS L := rfl
  have e3 : (decW (restU (restU L))).1 = dX L := rfl
  rw [e1, e2, e3]
  clear e1 e2 e3
  unfold newC newE at hcn
  unfold OwnC at hcn
  by_cases hE : shpB (dD L) (dS L) = false
  · obtain ⟨n1, n2⟩ := dec_no (dOk_shp hE)
    have HN1 := Lib.hid (HRES.out.symm.trans n1)
    have HN2 := Lib.hid (HREE.out.symm.trans n2)
    rw [if_neg (by rw [hE]; simp), if_neg (by rw [hE]; simp)] at hcn
    unfold CM.none at hcn
    dsimp only at hcn
    clear n1 n2 hE
    clear HRES HREE
    generalize dD L = d at *
    generalize dS L = s at *
    generalize dX L = x at *
    go_wp2_with (first
      | (go_at_call 11; refine hcn.mono ?_; rintro e w5 ⟨v5, rfl, ⟨a5, n5, c5, rfl, ho5⟩, hb5⟩; have B5 := Lib.hid (bgo B4.out hb5); have C5 := Lib.hid (C4.out.below hb5 (block_lt_of_cell C4.out.1.1)); have hs5 : w.heap.size < w5.heap.size := block_lt_of_cell C5.out.1.1; clear ho5 hb5)
      | (refine wp_storeC rfl _ _ rfl w.heap.size rfl (C5.out.below (b1 _) hs5) rfl ?_; intro w9 hC9 hO9; have B9 := Lib.hid ((bal B5.out _).trans hO9.1); obtain ⟨⟨q0, q1, q2, q3, q4⟩, f0, f1, f2, f3, f4⟩ := hC9; clear hO9))
    refine bodyPost_ret (v := .tuple #[.agg #[.int .i64 0, .int .i64 0, .int .u64 0, .slice none 0 0, .bool false], .int .i64 2]) (by simp [results, Try.results30, go_sem, *]) rfl ⟨_, by rw [HN2.out], by rw [HN1.out]; exact noneC_own _ _, B9.out⟩
  · have hE' : shpB (dD L) (dS L) = true := by simpa using hE
    rw [if_pos hE', if_pos hE'] at hcn
    dsimp only at hcn
    obtain ⟨d0, d1, s0, s1, p0, p1⟩ := shp_bd hE'
    obtain ⟨hN1, hN2⟩ := dN_eq hE'
    have HN : Hid ((dD L * dS L).toNat = dN L) := Lib.hid rfl
    rw [HN.out] at hcn
    have HR0 := Lib.hid (cellsN_zero (dR L) (dN L))
    rw [← HR0.out] at hcn
    have HCV := Lib.hid (cmE_vals hE')
    have HN0 : Hid (1 ≤ dN L) := Lib.hid (by
      have : 1 * 1 ≤ dD L * dS L := Int.mul_le_mul d0 s0 (by omega) (by omega)
      omega)
    have hLN : (cellsN (dR L) (dN L) 0).length = dN L := cellsN_len (Nat.zero_le _)
    -- the five ways out
    have HW1 := Lib.hid (fun (h : failN (dF L) (dR L) (dN L + 1) = true) => dec_no (dOk_fail h))
    have HW2 := Lib.hid (fun (h : rests (dR L) (dN L + 1) ≠ []) => dec_no (dOk_rest h))
    have HW3 := Lib.hid (fun (h : 1 < dG L) => dec_no (dOk_flag h))
    have HW4 := Lib.hid (fun (h : (valsN (dR L) (dN L)).all celB = false) => dec_no (dOk_cel h))
    have HW5 := Lib.hid (fun (h2 : failN (dF L) (dR L) (dN L + 1) = false) (h3 : rests (dR L) (dN L + 1) = []) (h4 : dG L ≤ 1) (h5 : (valsN (dR L) (dN L)).all celB = true) => dec_yes (dOk_mk hE' h2 h3 h4 h5))
    have HG : Hid (dG L = (decU (rests (dR L) (dN L))).1) := Lib.hid rfl
    have HGB := Lib.hid (show 0 ≤ dG L ∧ dG L ≤ 4611686018427387904 from by
      have := decU_bd (rests_byt (show Byt (dR L) from (D4.out.byt)) (dN L))
      exact ⟨this.1, this.2.1⟩)
    rw [HRES.out, HREE.out] at HW1 HW2 HW3 HW4 HW5
    clear hE hE' HN HR0 HRES HREE
    generalize dD L = d at *
    generalize dS L = s at *
    generalize dX L = x at *
    generalize dG L = gg at *
    generalize dN L = N at *
    generalize dF L = F at *
    generalize dR L = R at *
    go_wp2_with (go_at_call 11; refine hcn.mono ?_; rintro e w5 ⟨v5, rfl, ⟨a5, n5, c5, rfl, ho5⟩, hb5⟩; have B5 := Lib.hid (bgo B4.out hb5); have C5 := Lib.hid (C4.out.below hb5 (block_lt_of_cell C4.out.1.1)); have hs5 : w.heap.size < w5.heap.size := block_lt_of_cell C5.out.1.1; have D5 := Lib.hid (D4.out.keep (hb5.block _ D4.out.size)); have HL5 := Lib.hid (And.intro D4.out.size hb5.size); obtain ⟨a5', c5', he5⟩ := ho5.rd.shape; simp only [Value.slice.injEq] at he5; obtain ⟨rfl, rfl, rfl⟩ := he5; rw [hLN] at ho5; obtain ⟨b, rfl, hbB, hbs, _, _⟩ := ho5.cells (by rw [hLN]; have := HN0.out; omega); have HO5 := Lib.hid ho5; have HBB := Lib.hid (And.intro hbB hbs); clear ho5 hb5 hbB hbs)
    have HI : Hid (DecL w w.heap.size w5.heap.size w4.heap.size b N c5 d s x R F 0 (w5.alloc (.cells #[.int .i64 d, .int .i64 s, .int .u64 x, .slice (some ⟨b, 0, none⟩) N c5, .bool false] 26))) :=
      Lib.hid ⟨C5.out.below (b1 _) hs5, D5.out.keep (Below.heap_alloc _ _ _ (Nat.lt_of_lt_of_le HL5.out.1 HL5.out.2)), CSt.new _ _ _ _ _ _ _, HO5.out.alloc _, bal B5.out _⟩
    have HGE := Lib.hid (And.intro HBB.out (Nat.lt_of_lt_of_le HL5.out.1 (Nat.le_refl _)))
    clear B5 C5 D5 HO5 HR hcn D4 B4 C4
    go_loopw [10, 30] (fun _ i wr => ∃ k : Nat, k ≤ N ∧ i = .int .i64 (k : Int) ∧ Hid (DecL w w.heap.size w5.heap.size w4.heap.size b N c5 d s x R F k wr)) (fun _ i _ => N - (intOf i).toNat)
    case atStart => exact ⟨0, by omega, rfl, HI⟩
    case round =>
      clear HI
      obtain ⟨k, hk, rfl, HI⟩ := hrel
      obtain ⟨_, _, ⟨⟨q0, q1, q2, q3, q4⟩, f0, f1, f2, f3, f4⟩, _, _⟩ := HI.out
      by_cases hlt : k < N
      · have hdn := dnum_any (w := wr.drew) HI.out.2.1 HI.out.2.2.2.2.drew
        have hkN : (k : Int) < (N : Int) := by omega
        have HDB := Lib.hid (decU_bd HI.out.2.1.byt)
        have hne1 : ¬ b = w5.heap.size := by have := HBB.out; omega
        have hne2 : ¬ w5.heap.size = b := by omega
        have HST := Lib.hid (fun (w' : World) hd ho => DecL.step (w' := w') HI.out.drew (by have := HL5.out; omega) (by have := HBB.out; omega) hne1 hlt hd ho)
        have HOW := Lib.hid HI.out.2.2.2.1
        have HLC := Lib.hid (cellsN_len (R := R) (Nat.le_of_lt hlt))
        have HGN := Lib.hid (show w5.heap.size ≠ w.heap.size + 1 from by have := HL5.out; omega)
        have HGB2 := Lib.hid (show w.heap.size + 1 < w4.heap.size from HL5.out.1)
        generalize (decU (rests R k)).1 = val at *
        go_wp2
        go_region_held3 (fun w' => w'.cell? ⟨w5.heap.size, 3, none⟩ = some (.slice (some ⟨b, 0, none⟩) N c5)) (go_keep)
          (first | (go_at_call 57; refine hdn.mono ?_; rintro e w6 ⟨rfl, hd6, ho6⟩; have HD6 := Lib.hid (HST.out w6 hd6 ho6); have t3 : w6.cell? ⟨w5.heap.size, 3, none⟩ = some (.slice (some ⟨b, 0, none⟩) N c5) := (World.cell?_of_block (w := wr) (a := ⟨w5.heap.size, 3, none⟩) (ho6.2 _ HGN.out)).trans q3; have ho7 := OwnI.oth (w := wr.drew) (w' := w6) HOW.out ho6 HGB2.out; obtain ⟨g', he', _, _, hcl, _⟩ := ho7.cells (by rw [HLC.out]; omega); simp only [Option.some.injEq, Addr.mk.injEq, and_true] at he'; subst he'; obtain ⟨tb, tf⟩ := hcl k (by rw [HLC.out]; omega); clear hd6 ho6 ho7 hcl))
        all_goals
          go_wp2
          go_roundw
          case rel => exact ⟨k + 1, by omega, by go_num, HD6⟩
          case measure => simp [intOf]; omega
      · obtain rfl : k = N := by omega
        have hdn := dnum_any HI.out.2.1 HI.out.2.2.2.2
        rw [← HG.out] at hdn
        have HGN := Lib.hid (show w5.heap.size ≠ w.heap.size + 1 from by have := HL5.out; omega)
        have HGB2 := Lib.hid (show w.heap.size + 1 < w4.heap.size from HL5.out.1)
        have HOWN := Lib.hid HI.out.2.2.2.1
        rw [cellsN_all] at HOWN
        obtain ⟨gd1, gd2⟩ := HGB.out
        go_wp2_with fail
        go_at_call 57
        refine hdn.mono ?_
        rintro e w7 ⟨rfl, hd7, ho7⟩
        have C7 := Lib.hid (HI.out.1.oth ho7 (by omega))
        have D7 : Hid (DS w (w.heap.size + 1) (rests R (k + 1)) (failN F R (k + 1)) w7) := Lib.hid hd7
        have G7 := Lib.hid (HI.out.2.2.1.oth ho7 HGN.out)
        have O7 := Lib.hid (HOWN.out.oth ho7 HGB2.out)
        have B7 := Lib.hid (HI.out.2.2.2.2.trans (ho7.1.mono (Nat.le_succ _)))
        obtain ⟨⟨q70, q71, q72, q73, q74⟩, f70, f71, f72, f73, f74⟩ := G7.out
        clear hdn hd7 ho7 q0 q1 q2 q3 q4 f0 f1 f2 f3 f4 HI
        -- the world behind the flag's store
        have C8 := Lib.hid (C7.out.far (b := w5.heap.size) (by omega) 4 (.bool (gg == 1)))
        have D8 := Lib.hid (D7.out.keep (Below.heap_setCell w7 ⟨w5.heap.size, 4, none⟩ (.bool (gg == 1)) _ (show w.heap.size + 1 ≠ w5.heap.size from fun h => HGN.out h.symm)))
        have G8 := Lib.hid (G7.out.setS (gg == 1))
        have O8 := Lib.hid (O7.out.far (g := w5.heap.size) (by have := HBB.out; omega) 4 (.bool (gg == 1)))
        have B8 := Lib.hid (B7.out.setCell (p := ⟨w5.heap.size, 4, none⟩) (Nat.le_of_lt hs5) (.bool (gg == 1)))
        obtain ⟨v8, ⟨⟨p80, p81⟩, _⟩, hrd8⟩ := D8.out
        obtain ⟨_, a8, cp8, rfl, hl8, hm8, _⟩ := hrd8
        clear O7 C7 D7 B7
        by_cases hF : failN F R (k + 1) = true
        · have HX := Lib.hid (HW1.out hF)
          rw [hF] at p81
          clear hF
          go_wp2_with (refine wp_storeC rfl _ _ rfl w.heap.size rfl C8.out rfl ?_; intro w9 hC9 hO9; have B9 := Lib.hid (B8.out.trans hO9.1); have H9 := Lib.hid hO9; obtain ⟨⟨z0, z1, z2, z3, z4⟩, y0, y1, y2, y3, y4⟩ := hC9; clear hO9)
          refine bodyPost_ret (v := .tuple #[.agg #[.int .i64 0, .int .i64 0, .int .u64 0, .slice none 0 0, .bool false], .int .i64 2]) (by simp [results, Try.results30, go_sem, *]) rfl ⟨_, by rw [HX.out.2], by rw [HX.out.1]; exact noneC_own _ _, B9.out⟩
        · have hF0 : failN F R (k + 1) = false := by simpa using hF
          rw [hF0] at p81
          have hwf := maxLen
          have hml : ((rests R (k + 1)).length : Int) ≤ 9223372036854775807 := by unfold maxLen at hm8; omega
          by_cases hL : 0 < (rests R (k + 1)).length
          · have HX := Lib.hid (HW2.out (fun h => by rw [h] at hL; simp at hL))
            have hL2 : (0 : Int) < ((rests R (k + 1)).length : Int) := by omega
            clear hF
            generalize (rests R (k + 1)).length = ln at *
            go_wp2_with (refine wp_storeC rfl _ _ rfl w.heap.size rfl C8.out rfl ?_; intro w9 hC9 hO9; have B9 := Lib.hid (B8.out.trans hO9.1); have H9 := Lib.hid hO9; obtain ⟨⟨z0, z1, z2, z3, z4⟩, y0, y1, y2, y3, y4⟩ := hC9; clear hO9)
            refine bodyPost_ret (v := .tuple #[.agg #[.int .i64 0, .int .i64 0, .int .u64 0, .slice none 0 0, .bool false], .int .i64 2]) (by simp [results, Try.results30, go_sem, *]) rfl ⟨_, by rw [HX.out.2], by rw [HX.out.1]; exact noneC_own _ _, B9.out⟩
          · have hnil : rests R (k + 1) = [] := List.eq_nil_of_length_eq_zero (by omega)
            rw [hnil] at p80 hL hml
            by_cases hg : 1 < gg
            · have HX := Lib.hid (HW3.out hg)
              clear hF
              go_wp2_with (refine wp_storeC rfl _ _ rfl w.heap.size rfl C8.out rfl ?_; intro w9 hC9 hO9; have B9 := Lib.hid (B8.out.trans hO9.1); have H9 := Lib.hid hO9; obtain ⟨⟨z0, z1, z2, z3, z4⟩, y0, y1, y2, y3, y4⟩ := hC9; clear hO9)
              refine bodyPost_ret (v := .tuple #[.agg #[.int .i64 0, .int .i64 0, .int .u64 0, .slice none 0 0, .bool false], .int .i64 2]) (by simp [results, Try.results30, go_sem, *]) rfl ⟨_, by rw [HX.out.2], by rw [HX.out.1]; exact noneC_own _ _, B9.out⟩
            · have hv := cval_any d s x (valsN R k) (some ⟨b, 0, none⟩) k c5 (gg == 1) (w7.setCell ⟨w5.heap.size, 4, none⟩ (.bool (gg == 1))) (by omega) (by omega) (by omega) (by omega) O8.out.rd
              rw [HCV.out] at hv
              obtain ⟨⟨g80, g81, g82, g83, g84⟩, _⟩ := G8.out
              by_cases hall : (valsN R k).all celB = true
              · have HX := Lib.hid (HW5.out hF0 hnil (by omega) hall)
                rw [if_pos hall] at hv
                clear hF hall hnil hF0
                go_wp2_with (first
                  | (go_at_call 21; refine hv.mono ?_; rintro e w8 ⟨rfl, hb8⟩; have CV := Lib.hid (C8.out.below hb8 (block_lt_of_cell C8.out.1.1)); have GV := Lib.hid (G8.out.below hb8 (block_lt_of_cell G8.out.1.1)); have OV := Lib.hid (O8.out.below hb8); have BV := Lib.hid (bgo B8.out hb8); obtain ⟨⟨g90, g91, g92, g93, g94⟩, _⟩ := GV.out; clear hb8)
                  | (refine wp_storeC rfl _ _ rfl w.heap.size rfl CV.out rfl ?_; intro w9 hC9 hO9; have B9 := Lib.hid (BV.out.trans hO9.1); have O9 := Lib.hid (OV.out.oth hO9 (by have := HL5.out; omega)); obtain ⟨⟨z0, z1, z2, z3, z4⟩, y0, y1, y2, y3, y4⟩ := hC9; clear hO9))
                refine bodyPost_ret (v := .tuple #[.agg #[.int .i64 d, .int .i64 s, .int .u64 x, .slice (some ⟨b, 0, none⟩) k c5, .bool (gg == 1)], .int .i64 0]) (by simp [results, Try.results30, go_sem, *]) rfl ⟨_, by rw [HX.out.2], by rw [HX.out.1]; exact ⟨_, _, _, rfl, O9.out.mono (by have := HL5.out; omega)⟩, B9.out⟩
              · have hall0 : (valsN R k).all celB = false := by simpa using hall
                have HX := Lib.hid (HW4.out hall0)
                rw [if_neg hall] at hv
                clear hF hall hnil hF0 hall0
                go_wp2_with (first
                  | (go_at_call 21; refine hv.mono ?_; rintro e w8 ⟨rfl, hb8⟩; have CV := Lib.hid (C8.out.below hb8 (block_lt_of_cell C8.out.1.1)); have BV := Lib.hid (bgo B8.out hb8); clear hb8)
                  | (refine wp_storeC rfl _ _ rfl w.heap.size rfl CV.out rfl ?_; intro w9 hC9 hO9; have B9 := Lib.hid (BV.out.trans hO9.1); obtain ⟨⟨z0, z1, z2, z3, z4⟩, y0, y1, y2, y3, y4⟩ := hC9; clear hO9))
                refine bodyPost_ret (v := .tuple #[.agg #[.int .i64 0, .int .i64 0, .int .u64 0, .slice none 0 0, .bool false], .int .i64 2]) (by simp [results, Try.results30, go_sem, *]) rfl ⟨_, by rw [HX.out.2], by rw [HX.out.1]; exact noneC_own _ _, B9.out⟩
end Go.Proofs.Ytlbbmnjhohfbkaa
