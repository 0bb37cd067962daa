/- The contract of the reference's MergeRanks. -/
import Derived.Test.YtdifilhfmbpalaaDoorRkI2
import Derived.Test.YtdifilhfmbpalaaDoorRRkT
import Derived.Test.YtdifilhfmbpalaaDoorRRVal
namespace Go.Proofs.YtdifilhfmbpalaaDoor
open Go.RowKit
set_option linter.unusedVariables false
set_option linter.unusedSimpArgs false
/-- The memory while levels are joined. -/
def JW (W : World) (D : List (List ByteArray)) (us : List Value) (v : Value) (w : World) : Prop := MixL W W.heap.size D us v w ∧ Below W.heap.size W w
section
variable {W : World} {D : List (List ByteArray)} {us : List Value} {v : Value} {w w' : World}
theorem JW.bel (h : JW W D us v w) : Below W.heap.size W w := h.2
theorem JW.go (h : JW W D us v w) (hb : Below w.heap.size w w') : JW W D us v w' := ⟨h.1.below hb, bgo h.2 hb⟩
theorem JW.snoc {l : List ByteArray} {u v' : Value} (h : JW W D us v w) (hu : RowT W W.heap.size l u w) (hv : OwnV W.heap.size (us ++ [u]) v' w') (hl : Lone v w w') (hb : Below W.heap.size w w') : JW W (D ++ [l]) (us ++ [u]) v' w' := ⟨h.1.snoc hu hv hl, h.2.trans hb⟩
end
set_option maxRecDepth 100000 in
set_option maxHeartbeats 4000000 in
theorem rmerR_any (A B : RK) (va vb vc : Value) (Z : List Int) (a : Int) (Bd : Nat) (w : World) (hA : RbR Bd A va w) (hB : RdR B vb w) (hBd : Bd ≤ w.heap.size) (hoA : LOk A.L) (hoB : LOk B.L) (hZ : Rd Z vc w) :
    Calls Tryd.prog 23 #[va, vb, vc, .int .i64 a] w fun e w' =>
      ∃ u, e = .returned (.tuple #[u, .int .i64 (merR A B Z a).2, .int .i64 (merRE A B a)]) ∧ RbR Bd (merR A B Z a).1 u w' ∧ Below w.heap.size w w' := by
  obtain ⟨S, T, K, L, s⟩ := A
  obtain ⟨S', T', K', M, s'⟩ := B
  obtain ⟨aA, cA, rfl, hr⟩ := hA.run
  obtain ⟨aB, cB, rfl, hr2⟩ := hB.run
  clear hA hB
  dsimp only at hr hr2 hoA hoB ⊢
  have HR := Lib.hid hr
  have HR2 := Lib.hid hr2
  have HZ := Lib.hid hZ
  have HVA := Lib.hid (fun (w' : World) (hb : Below w.heap.size w w') => rvalR_any S T K L s aA L.length cA w' (hr.rd.below hb) hoA)
  have HVB := Lib.hid (fun (w' : World) (hb : Below w.heap.size w w') => rvalR_any S' T' K' M s' aB M.length cB w' (hr2.below hb) hoB)
  have hpo := fun w => rpos_any a w
  have M0 := Lib.hid (MM.new w ⟨S, T, K, L, s⟩ (.slice aA L.length cA) ⟨S', T', K', M, s'⟩ (.slice aB M.length cB))
  clear hr hr2 hZ
  unfold merR merRE
  dsimp only
  by_cases hE : valR S T K L = 0
  · rw [hE] at HVA
    rw [if_pos hE, if_pos hE]
    by_cases hG : valR S' T' K' M = 0
    · rw [hG] at HVB
      rw [if_pos hG, if_pos hG]
      by_cases hF : S = S' ∧ posR a = true
      · have hval := valR_ok hE
        have hvalB := valR_ok hG
        have hpp := posR_iff hF.2
        rw [hF.2] at hpo
        rw [if_pos hF, if_pos hF]
        obtain rfl : S = S' := hF.1
        have hvt := hval.t0
        have hvt1 := hval.t1
        have hwt := hvalB.t0
        have hwt1 := hvalB.t1
        have HSU : Hid (∀ w1, Calls Tryd.prog 39 #[.int .i64 T, .int .i64 T'] w1 fun e w' => e = .returned (.tuple #[.int .i64 (aS T T'), .bool (aF T T')]) ∧ w1 = w') := Lib.hid (fun w1 => rsumR_any T T' w1 (by omega) (by omega) (by omega) (by omega))
        cases hFl : aF T T' with
        | true =>
          rw [hFl] at HSU
          rw [show sumK ⟨S, T, K, L, s⟩ ⟨S, T', K', M, s'⟩ Z a = (⟨S, T, K, L, true⟩, a) by unfold sumK; dsimp only; rw [if_pos hFl]]
          clear hval hvalB hE hF hG hoA hoB hpp hFl
          go_enter Tryd.func23, Tryd.ntmps23
          go_wp2_with (first
            | (go_at_call 21; (with_reducible refine (HVA.out _ M0.out.bel).mono ?_); rintro e w2 ⟨rfl, hb2⟩; have M2 := Lib.hid (M0.out.go hb2); obtain ⟨⟨p0, p1, p2, p3, p4⟩, ⟨q0, q1, q2, q3, q4⟩, ⟨o0, o1, o2, o3, o4⟩, y0, y1, y2, y3, y4⟩ := M2.out.cells; clear hb2)
            | (go_at_call 21; (with_reducible refine (HVB.out _ M2.out.bel).mono ?_); rintro e w3 ⟨rfl, hb3⟩; have M3 := Lib.hid (M2.out.go hb3); clear p0 p1 p2 p3 p4 q0 q1 q2 q3 q4 o0 o1 o2 o3 o4 y0 y1 y2 y3 y4; obtain ⟨⟨p0, p1, p2, p3, p4⟩, ⟨q0, q1, q2, q3, q4⟩, ⟨o0, o1, o2, o3, o4⟩, y0, y1, y2, y3, y4⟩ := M3.out.cells; clear hb3; obtain ⟨z0, z1, z2, z3, z4⟩ := M3.out.1.2)
            | (go_at_call 38; (with_reducible refine (hpo _).mono ?_); rintro e w4 ⟨rfl, rfl⟩)
            | (go_at_call 39; (with_reducible refine (HSU.out _).mono ?_); rintro e w5 ⟨rfl, rfl⟩))
          refine bodyPost_ret (v := .tuple #[.agg #[.int .i64 S, .int .i64 T, .int .i64 K, .slice aA L.length cA, .bool true], .int .i64 a, .int .i64 0]) (by simp [results, Tryd.results23, go_sem, *]) rfl ⟨_, rfl, ⟨_, _, _, rfl, ?_⟩, ?_⟩
          · have l3 : w.heap.size ≤ w.heap.size + 1 + 1 := by omega
            exact HR.out.below (bset (bset (bset (bset (bset (bset M3.out.bel _ _ _ (Nat.le_refl _)) _ _ _ l3) _ _ _ l3) _ _ _ l3) _ _ _ l3) _ _ _ l3)
          · have l3 : w.heap.size ≤ w.heap.size + 1 + 1 := by omega
            exact bset (bset (bset (bset (bset (bset M3.out.bel _ _ _ (Nat.le_refl _)) _ _ _ l3) _ _ _ l3) _ _ _ l3) _ _ _ l3) _ _ _ l3
        | false =>
          rw [hFl] at HSU
          have hvk := hval.k0
          have hvk1 := hval.k1
          have hwk := hvalB.k0
          have hwk1 := hvalB.k1
          have hsv := sumK_val (A := ⟨S, T, K, L, s⟩) (B := ⟨S, T', K', M, s'⟩) (Z := Z) (a := a) hval hvalB
          have hsk : sumK ⟨S, T, K, L, s⟩ ⟨S, T', K', M, s'⟩ Z a = (⟨S, aS T T', (stl S Z 0 (joinL L M) (aS K K') a).2.1, (stl S Z 0 (joinL L M) (aS K K') a).1, s || s'⟩, (stl S Z 0 (joinL L M) (aS K K') a).2.2) := by
            unfold sumK
            dsimp only
            rw [if_neg (show ¬ aF T T' = true by rw [hFl]; simp)]
          rw [hsk] at hsv ⊢
          have h41 := hsv.nl
          dsimp only at h41
          have hjl : (joinL L M).length ≤ 41 := by
            rw [joinL_len]
            have h1 := hval.nl
            have h2 := hvalB.nl
            omega
          have HSU2 : Hid (∀ w1, Calls Tryd.prog 39 #[.int .i64 K, .int .i64 K'] w1 fun e w' => e = .returned (.tuple #[.int .i64 (aS K K'), .bool (aF K K')]) ∧ w1 = w') := Lib.hid (fun w1 => rsumR_any K K' w1 (by omega) (by omega) (by omega) (by omega))
          have HST := Lib.hid (fun (vl : Value) w1 (h : RdL (joinL L M) vl w1) (hz : Rd Z vc w1) => rsettle_any (joinL L M) vl vc Z S a (aS K K') w1 h hz hval.s0 hval.s1 hpp.1 hpp.2 (aS_bd _ _).1 (aS_bd _ _).2 h41 (joinL_last hval.ne hvalB.ne) (joinL_rows hval.rows hvalB.rows) hjl)
          have HAR := Lib.hid hval.rows
          have HBR := Lib.hid hvalB.rows
          have hLn := hval.nl
          have hMn := hvalB.nl
          have HJL : Hid (∀ i, max L.length M.length ≤ i → (joinL L M).take i = joinL L M) := Lib.hid (fun i h => List.take_of_length_le (by rw [joinL_len]; exact h))
          generalize stl S Z 0 (joinL L M) (aS K K') a = R at *
          generalize aS K K' = KK at *
          generalize aS T T' = TT at *
          clear hval hvalB hE hF hG hoA hoB hpp hFl hsk hsv h41 hjl
          go_enter Tryd.func23, Tryd.ntmps23
          go_upto_region 15 with (first
            | (go_at_call 21; (with_reducible refine (HVA.out _ M0.out.bel).mono ?_); rintro e w2 ⟨rfl, hb2⟩; have M2 := Lib.hid (M0.out.go hb2); obtain ⟨⟨p0, p1, p2, p3, p4⟩, ⟨q0, q1, q2, q3, q4⟩, ⟨o0, o1, o2, o3, o4⟩, y0, y1, y2, y3, y4⟩ := M2.out.cells; clear hb2)
            | (go_at_call 21; (with_reducible refine (HVB.out _ M2.out.bel).mono ?_); rintro e w3 ⟨rfl, hb3⟩; have M3 := Lib.hid (M2.out.go hb3); clear p0 p1 p2 p3 p4 q0 q1 q2 q3 q4 o0 o1 o2 o3 o4 y0 y1 y2 y3 y4; obtain ⟨⟨p0, p1, p2, p3, p4⟩, ⟨q0, q1, q2, q3, q4⟩, ⟨o0, o1, o2, o3, o4⟩, y0, y1, y2, y3, y4⟩ := M3.out.cells; clear hb3)
            | (go_at_call 38; (with_reducible refine (hpo _).mono ?_); rintro e w4 ⟨rfl, rfl⟩)
            | (go_at_call 39; (with_reducible refine (HSU.out _).mono ?_); rintro e w5 ⟨rfl, rfl⟩))
          have h3 := M3.out.lt
          have HRA := Lib.hid (HR.out.rd.below M3.out.bel)
          have HRB := Lib.hid (HR2.out.below M3.out.bel)
          have I3 : Hid (JW w3 ((joinL L M).take 0) [] (.slice none 0 0) w3) := Lib.hid ⟨MixL.empty _ _ _, Below.refl _ _⟩
          clear HVA HVB hpo HSU M0 M2 HR HR2
          go_wp2
          go_loopw [15, 16] (fun lv iv wr => ∃ (i : Nat) (us : List Value), i ≤ max L.length M.length ∧ iv = .int .i64 (i : Int) ∧ Hid (us.length = i) ∧ Hid (JW w3 ((joinL L M).take i) us lv wr)) (fun _ iv _ => max L.length M.length - (intOf iv).toNat)
          case atStart => exact ⟨0, [], Nat.zero_le _, rfl, Lib.hid rfl, I3⟩
          case round =>
            clear I3
            obtain ⟨i, us, hi, rfl, HUL, HI⟩ := hrel
            have MW := Lib.hid (M3.out.go HI.out.bel)
            clear p0 p1 p2 p3 p4 q0 q1 q2 q3 q4 o0 o1 o2 o3 o4 y0 y1 y2 y3 y4
            obtain ⟨⟨p0, p1, p2, p3, p4⟩, ⟨q0, q1, q2, q3, q4⟩, ⟨o0, o1, o2, o3, o4⟩, y0, y1, y2, y3, y4⟩ := MW.out.cells
            obtain ⟨a2, c2, rfl⟩ := HI.out.1.1.rd.shape
            by_cases hlt : i < max L.length M.length
            · have HJT : Hid ((joinL L M).take i ++ [L.getD i [] ++ M.getD i []] = (joinL L M).take (i + 1)) := Lib.hid (by rw [take_getD (d := []) (show i < (joinL L M).length by rw [joinL_len]; exact hlt), joinL_at])
              have HLA : Hid ((L.getD i []).length ≤ 31) := Lib.hid (getD_all (p := fun l => l.length ≤ 31) HAR.out (Nat.zero_le _) i)
              have HLB : Hid ((M.getD i []).length ≤ 31) := Lib.hid (getD_all (p := fun l => l.length ≤ 31) HBR.out (Nat.zero_le _) i)
              have HCA : Hid (∀ h : i < L.length, ∃ b off u m c, aA = some ⟨b, off, none⟩ ∧ b < w3.heap.size ∧ w3.cell? ⟨b, off + i, none⟩ = some (.slice u m c) ∧ RdS (L.getD i []) (.slice u m c) w3) := Lib.hid (fun h => by
                obtain ⟨b, off, u, m, c, h1, -, h2, h3, h4, -⟩ := HRA.out.at_ h
                exact ⟨b, off, u, m, c, h1, h2, h3, h4⟩)
              have HCB : Hid (∀ h : i < M.length, ∃ b off u m c, aB = some ⟨b, off, none⟩ ∧ b < w3.heap.size ∧ w3.cell? ⟨b, off + i, none⟩ = some (.slice u m c) ∧ RdS (M.getD i []) (.slice u m c) w3) := Lib.hid (fun h => by
                obtain ⟨b, off, u, m, c, h1, -, h2, h3, h4, -⟩ := HRB.out.at_ h
                exact ⟨b, off, u, m, c, h1, h2, h3, h4⟩)
              have HGA : Hid (¬ i < L.length → L.getD i [] = []) := Lib.hid (fun h => by simp [List.getD, List.getElem?_eq_none (Nat.le_of_not_lt h)])
              have HGB : Hid (¬ i < M.length → M.getD i [] = []) := Lib.hid (fun h => by simp [List.getD, List.getElem?_eq_none (Nat.le_of_not_lt h)])
              rw [HUL.out]
              generalize (joinL L M).take i = D at *
              generalize L.getD i [] = la at *
              generalize M.getD i [] = lb at *
              by_cases hka : i < L.length
              · have hka2 : (i : Int) < (L.length : Int) := by omega
                obtain ⟨ba, oa, ua, ma, ca, rfl, hba, hca, hra⟩ := HCA.out hka
                have hca2 := ((bcell HI.out.bel).1 ba _ hba).trans hca
                have HSA := Lib.hid (hra.below HI.out.bel).src
                by_cases hkb : i < M.length
                · have hkb2 : (i : Int) < (M.length : Int) := by omega
                  obtain ⟨bb, ob, ub, mb, cb, rfl, hbb, hcb, hrb⟩ := HCB.out hkb
                  clear hca
                  go_upto_region 24 with (first
                    | (at_builtin; refine wp_appS rfl _ _ _ rfl wr.heap.size [] la _ _ rfl rfl (OwnS.empty _ _) HSA.out (Nat.le_refl _) (by have := HLA.out; rw [List.length_nil]; omega) ?_; intro v7 w7 ho7 hb7; rw [List.nil_append] at ho7; have B7 := Lib.hid hb7; have O7 := Lib.hid ho7; have M7 := Lib.hid (MW.out.go hb7); have hcb7 := ((bcell (HI.out.go hb7).bel).1 bb _ hbb).trans hcb; have HSB := Lib.hid (hrb.below (HI.out.go hb7).bel).src; clear p0 p1 p2 p3 p4 q0 q1 q2 q3 q4 o0 o1 o2 o3 o4 y0 y1 y2 y3 y4 ho7 hb7; obtain ⟨⟨p0, p1, p2, p3, p4⟩, ⟨q0, q1, q2, q3, q4⟩, ⟨o0, o1, o2, o3, o4⟩, y0, y1, y2, y3, y4⟩ := M7.out.cells)
                    | (at_builtin; refine wp_appS rfl _ _ _ rfl wr.heap.size la lb _ _ rfl rfl O7.out HSB.out B7.out.size (by have := HLA.out; have := HLB.out; omega) ?_; intro v8 w8 ho8 hb8; have O8 := Lib.hid ho8; have B8 := Lib.hid (B7.out.trans hb8); clear ho8 hb8))
                  (obtain ⟨a8, c8, h8⟩ := O8.out.rd.shape; obtain ⟨m8, hm8⟩ : ∃ m8, (la ++ lb).length = m8 := ⟨_, rfl⟩; rw [hm8] at h8; subst h8)
                  have MA := Lib.hid (HI.out.go (bal B8.out (.cells #[.slice a8 m8 c8] 57)))
                  have HOV := Lib.hid MA.out.1.1
                  rw [HUL.out] at HOV
                  have RA := Lib.hid (RowT.own (W := w3) (O8.out.below (b1 (.cells #[.slice a8 m8 c8] 57))) HI.out.bel.size)
                  go_wp2_with (at_builtin; refine wp_appV rfl _ _ _ rfl w3.heap.size us [.slice a8 m8 c8] _ _ rfl rfl HOV.out (OwnV.one rfl w8).rd.src MA.out.bel.size (by have := HUL.out; simp; omega) ?_; intro v10 w10 ho10 hb10 hl10; have h10 := MA.out.snoc RA.out ho10 (by rw [HUL.out]; exact hl10) hb10; rw [HJT.out] at h10; have M10 := Lib.hid h10; clear ho10 hb10 hl10 h10)
                  exact ⟨⟨i + 1, us ++ [.slice a8 m8 c8], by omega, by go_num, Lib.hid (by rw [List.length_append, HUL.out]; rfl), M10⟩, by simp [intOf]; omega⟩
                · have hkb2 : ¬ (i : Int) < (M.length : Int) := by omega
                  have hB0 := HGB.out hkb
                  subst hB0
                  clear hca
                  go_upto_region 24 with (at_builtin; refine wp_appS rfl _ _ _ rfl wr.heap.size [] la _ _ rfl rfl (OwnS.empty _ _) HSA.out (Nat.le_refl _) (by have := HLA.out; rw [List.length_nil]; omega) ?_; intro v8 w8 ho8 hb8; rw [List.nil_append] at ho8; have O8 : Hid (OwnS wr.heap.size (la ++ []) v8 w8) := Lib.hid (by rw [List.append_nil]; exact ho8); have B8 := Lib.hid hb8; have M7 := Lib.hid (MW.out.go hb8); clear p0 p1 p2 p3 p4 q0 q1 q2 q3 q4 o0 o1 o2 o3 o4 y0 y1 y2 y3 y4 ho8 hb8; obtain ⟨⟨p0, p1, p2, p3, p4⟩, ⟨q0, q1, q2, q3, q4⟩, ⟨o0, o1, o2, o3, o4⟩, y0, y1, y2, y3, y4⟩ := M7.out.cells)
                  (obtain ⟨a8, c8, h8⟩ := O8.out.rd.shape; obtain ⟨m8, hm8⟩ : ∃ m8, (la ++ ([] : List ByteArray)).length = m8 := ⟨_, rfl⟩; rw [hm8] at h8; subst h8)
                  have MA := Lib.hid (HI.out.go (bal B8.out (.cells #[.slice a8 m8 c8] 57)))
                  have HOV := Lib.hid MA.out.1.1
                  rw [HUL.out] at HOV
                  have RA := Lib.hid (RowT.own (W := w3) (O8.out.below (b1 (.cells #[.slice a8 m8 c8] 57))) HI.out.bel.size)
                  go_wp2_with (at_builtin; refine wp_appV rfl _ _ _ rfl w3.heap.size us [.slice a8 m8 c8] _ _ rfl rfl HOV.out (OwnV.one rfl w8).rd.src MA.out.bel.size (by have := HUL.out; simp; omega) ?_; intro v10 w10 ho10 hb10 hl10; have h10 := MA.out.snoc RA.out ho10 (by rw [HUL.out]; exact hl10) hb10; rw [HJT.out] at h10; have M10 := Lib.hid h10; clear ho10 hb10 hl10 h10)
                  exact ⟨⟨i + 1, us ++ [.slice a8 m8 c8], by omega, by go_num, Lib.hid (by rw [List.length_append, HUL.out]; rfl), M10⟩, by simp [intOf]; omega⟩
              · have hka2 : ¬ (i : Int) < (L.length : Int) := by omega
                have hA0 := HGA.out hka
                subst hA0
                have hkb : i < M.length := by omega
                have hkb2 : (i : Int) < (M.length : Int) := by omega
                obtain ⟨bb, ob, ub, mb, cb, rfl, hbb, hcb, hrb⟩ := HCB.out hkb
                have hcb2 := ((bcell HI.out.bel).1 bb _ hbb).trans hcb
                have HSB := Lib.hid (hrb.below HI.out.bel).src
                go_upto_region 24 with (at_builtin; refine wp_appS rfl _ _ _ rfl wr.heap.size [] lb _ _ rfl rfl (OwnS.empty _ _) HSB.out (Nat.le_refl _) (by have := HLB.out; rw [List.length_nil]; omega) ?_; intro v8 w8 ho8 hb8; have O8 := Lib.hid ho8; have B8 := Lib.hid hb8; clear ho8 hb8)
                (obtain ⟨a8, c8, h8⟩ := O8.out.rd.shape; obtain ⟨m8, hm8⟩ : ∃ m8, (([] : List ByteArray) ++ lb).length = m8 := ⟨_, rfl⟩; rw [hm8] at h8; subst h8)
                have MA := Lib.hid (HI.out.go (bal B8.out (.cells #[.slice a8 m8 c8] 57)))
                have HOV := Lib.hid MA.out.1.1
                rw [HUL.out] at HOV
                have RA := Lib.hid (RowT.own (W := w3) (O8.out.below (b1 (.cells #[.slice a8 m8 c8] 57))) HI.out.bel.size)
                go_wp2_with (at_builtin; refine wp_appV rfl _ _ _ rfl w3.heap.size us [.slice a8 m8 c8] _ _ rfl rfl HOV.out (OwnV.one rfl w8).rd.src MA.out.bel.size (by have := HUL.out; simp; omega) ?_; intro v10 w10 ho10 hb10 hl10; have h10 := MA.out.snoc RA.out ho10 (by rw [HUL.out]; exact hl10) hb10; rw [HJT.out] at h10; have M10 := Lib.hid h10; clear ho10 hb10 hl10 h10)
                exact ⟨⟨i + 1, us ++ [.slice a8 m8 c8], by omega, by go_num, Lib.hid (by rw [List.length_append, HUL.out]; rfl), M10⟩, by simp [intOf]; omega⟩
            · have hnA : ¬ (i : Int) < (L.length : Int) := by omega
              have hnB : ¬ (i : Int) < (M.length : Int) := by omega
              rw [HJL.out i (by omega)] at HI
              have HRJ := Lib.hid HI.out.1.rd
              have HZR := Lib.hid (HZ.out.below MW.out.bel)
              have h3r : w.heap.size + 3 ≤ wr.heap.size := by
                have h := HI.out.bel.size
                omega
              rw [HUL.out] at HRJ ⊢
              clear HI HUL
              cases s
              case false =>
                go_wp2_with (first
                  | (go_at_call 39; (with_reducible refine (HSU2.out _).mono ?_); rintro e w5 ⟨rfl, rfl⟩)
                  | (go_at_call 41; (with_reducible refine (HST.out _ _ HRJ.out HZR.out).mono ?_); rintro e w9 ⟨u9, rfl, ho9, hb9⟩; obtain ⟨a9, c9, rfl⟩ := ho9.rd.shape; have M9 := Lib.hid (MW.out.go hb9); have O9 := Lib.hid (ho9.mono (B' := w.heap.size + 3) h3r); clear p0 p1 p2 p3 p4 q0 q1 q2 q3 q4 o0 o1 o2 o3 o4 y0 y1 y2 y3 y4 ho9 hb9; obtain ⟨⟨p0, p1, p2, p3, p4⟩, ⟨q0, q1, q2, q3, q4⟩, ⟨o0, o1, o2, o3, o4⟩, y0, y1, y2, y3, y4⟩ := M9.out.cells))
                have HX2 := FiveS.put (R := ⟨S, TT, R.2.1, R.1, s'⟩) M9.out.2.2.1 O9.out M9.out.bel (by omega)
                refine bodyPost_ret (v := .tuple #[.agg #[.int .i64 S, .int .i64 TT, .int .i64 R.2.1, .slice a9 R.1.length c9, .bool s'], .int .i64 R.2.2, .int .i64 0]) (by simp [results, Tryd.results23, go_sem, *]) rfl ⟨_, rfl, ⟨_, _, _, rfl, HX2.2.1.mono (by omega)⟩, HX2.2.2⟩
              case true =>
                go_wp2_with (first
                  | (go_at_call 39; (with_reducible refine (HSU2.out _).mono ?_); rintro e w5 ⟨rfl, rfl⟩)
                  | (go_at_call 41; (with_reducible refine (HST.out _ _ HRJ.out HZR.out).mono ?_); rintro e w9 ⟨u9, rfl, ho9, hb9⟩; obtain ⟨a9, c9, rfl⟩ := ho9.rd.shape; have M9 := Lib.hid (MW.out.go hb9); have O9 := Lib.hid (ho9.mono (B' := w.heap.size + 3) h3r); clear p0 p1 p2 p3 p4 q0 q1 q2 q3 q4 o0 o1 o2 o3 o4 y0 y1 y2 y3 y4 ho9 hb9; obtain ⟨⟨p0, p1, p2, p3, p4⟩, ⟨q0, q1, q2, q3, q4⟩, ⟨o0, o1, o2, o3, o4⟩, y0, y1, y2, y3, y4⟩ := M9.out.cells))
                have HX2 := FiveS.put (R := ⟨S, TT, R.2.1, R.1, true⟩) M9.out.2.2.1 O9.out M9.out.bel (by omega)
                refine bodyPost_ret (v := .tuple #[.agg #[.int .i64 S, .int .i64 TT, .int .i64 R.2.1, .slice a9 R.1.length c9, .bool true], .int .i64 R.2.2, .int .i64 0]) (by simp [results, Tryd.results23, go_sem, *]) rfl ⟨_, rfl, ⟨_, _, _, rfl, HX2.2.1.mono (by omega)⟩, HX2.2.2⟩
      · rw [if_neg hF, if_neg hF]
        by_cases hI : S = S'
        · have hP : posR a = false := by
            cases hp : posR a with
            | false => rfl
            | true => exact absurd ⟨hI, hp⟩ hF
          rw [hP] at hpo
          rw [if_pos hI]
          clear hF hP
          obtain rfl : S = S' := hI
          go_enter Tryd.func23, Tryd.ntmps23
          go_wp2_with (first
            | (go_at_call 21; (with_reducible refine (HVA.out _ M0.out.bel).mono ?_); rintro e w2 ⟨rfl, hb2⟩; have M2 := Lib.hid (M0.out.go hb2); obtain ⟨⟨p0, p1, p2, p3, p4⟩, ⟨q0, q1, q2, q3, q4⟩, ⟨o0, o1, o2, o3, o4⟩, y0, y1, y2, y3, y4⟩ := M2.out.cells; clear hb2)
            | (go_at_call 21; (with_reducible refine (HVB.out _ M2.out.bel).mono ?_); rintro e w3 ⟨rfl, hb3⟩; have M3 := Lib.hid (M2.out.go hb3); clear p0 p1 p2 p3 p4 q0 q1 q2 q3 q4 o0 o1 o2 o3 o4 y0 y1 y2 y3 y4; obtain ⟨⟨p0, p1, p2, p3, p4⟩, ⟨q0, q1, q2, q3, q4⟩, ⟨o0, o1, o2, o3, o4⟩, y0, y1, y2, y3, y4⟩ := M3.out.cells; clear hb3)
            | (go_at_call 38; (with_reducible refine (hpo _).mono ?_); rintro e w4 ⟨rfl, rfl⟩))
          refine bodyPost_ret (v := .tuple #[.agg #[.int .i64 0, .int .i64 0, .int .i64 0, .slice none 0 0, .bool false], .int .i64 0, .int .i64 (5)]) (by simp [results, Tryd.results23, go_sem, *]) rfl ⟨_, rfl, ⟨none, 0, 0, rfl, RdB.none_ _ _⟩, ?_⟩
          have l3 : w.heap.size ≤ w.heap.size + 1 + 1 := by omega
          exact bset (bset (bset (bset (bset M3.out.2.2.2 _ _ _ l3) _ _ _ l3) _ _ _ l3) _ _ _ l3) _ _ _ l3
        · rw [if_neg hI]
          clear hF
          go_enter Tryd.func23, Tryd.ntmps23
          go_wp2_with (first
            | (go_at_call 21; (with_reducible refine (HVA.out _ M0.out.bel).mono ?_); rintro e w2 ⟨rfl, hb2⟩; have M2 := Lib.hid (M0.out.go hb2); obtain ⟨⟨p0, p1, p2, p3, p4⟩, ⟨q0, q1, q2, q3, q4⟩, ⟨o0, o1, o2, o3, o4⟩, y0, y1, y2, y3, y4⟩ := M2.out.cells; clear hb2)
            | (go_at_call 21; (with_reducible refine (HVB.out _ M2.out.bel).mono ?_); rintro e w3 ⟨rfl, hb3⟩; have M3 := Lib.hid (M2.out.go hb3); clear p0 p1 p2 p3 p4 q0 q1 q2 q3 q4 o0 o1 o2 o3 o4 y0 y1 y2 y3 y4; obtain ⟨⟨p0, p1, p2, p3, p4⟩, ⟨q0, q1, q2, q3, q4⟩, ⟨o0, o1, o2, o3, o4⟩, y0, y1, y2, y3, y4⟩ := M3.out.cells; clear hb3))
          refine bodyPost_ret (v := .tuple #[.agg #[.int .i64 0, .int .i64 0, .int .i64 0, .slice none 0 0, .bool false], .int .i64 0, .int .i64 (10)]) (by simp [results, Tryd.results23, go_sem, *]) rfl ⟨_, rfl, ⟨none, 0, 0, rfl, RdB.none_ _ _⟩, ?_⟩
          have l3 : w.heap.size ≤ w.heap.size + 1 + 1 := by omega
          exact bset (bset (bset (bset (bset M3.out.2.2.2 _ _ _ l3) _ _ _ l3) _ _ _ l3) _ _ _ l3) _ _ _ l3
    · have hE2 : (valR S' T' K' M != 0) = true := by simpa using hG
      rw [if_neg hG, if_neg hG]
      clear hG
      go_enter Tryd.func23, Tryd.ntmps23
      go_wp2_with (first
        | (go_at_call 21; (with_reducible refine (HVA.out _ M0.out.bel).mono ?_); rintro e w2 ⟨rfl, hb2⟩; have M2 := Lib.hid (M0.out.go hb2); obtain ⟨⟨p0, p1, p2, p3, p4⟩, ⟨q0, q1, q2, q3, q4⟩, ⟨o0, o1, o2, o3, o4⟩, y0, y1, y2, y3, y4⟩ := M2.out.cells; clear hb2)
        | (go_at_call 21; (with_reducible refine (HVB.out _ M2.out.bel).mono ?_); rintro e w3 ⟨rfl, hb3⟩; have M3 := Lib.hid (M2.out.go hb3); clear p0 p1 p2 p3 p4 q0 q1 q2 q3 q4 o0 o1 o2 o3 o4 y0 y1 y2 y3 y4; obtain ⟨⟨p0, p1, p2, p3, p4⟩, ⟨q0, q1, q2, q3, q4⟩, ⟨o0, o1, o2, o3, o4⟩, y0, y1, y2, y3, y4⟩ := M3.out.cells; clear hb3))
      refine bodyPost_ret (v := .tuple #[.agg #[.int .i64 0, .int .i64 0, .int .i64 0, .slice none 0 0, .bool false], .int .i64 0, .int .i64 (valR S' T' K' M)]) (by simp [results, Tryd.results23, go_sem, *]) rfl ⟨_, rfl, ⟨none, 0, 0, rfl, RdB.none_ _ _⟩, ?_⟩
      have l3 : w.heap.size ≤ w.heap.size + 1 + 1 := by omega
      exact bset (bset (bset (bset (bset M3.out.2.2.2 _ _ _ l3) _ _ _ l3) _ _ _ l3) _ _ _ l3) _ _ _ l3
  · have hE2 : (valR S T K L != 0) = true := by simpa using hE
    rw [if_neg hE, if_neg hE]
    clear hE
    go_enter Tryd.func23, Tryd.ntmps23
    go_wp2_with (go_at_call 21; (with_reducible refine (HVA.out _ M0.out.bel).mono ?_); rintro e w2 ⟨rfl, hb2⟩; have M2 := Lib.hid (M0.out.go hb2); obtain ⟨⟨p0, p1, p2, p3, p4⟩, ⟨q0, q1, q2, q3, q4⟩, ⟨o0, o1, o2, o3, o4⟩, y0, y1, y2, y3, y4⟩ := M2.out.cells; clear hb2)
    refine bodyPost_ret (v := .tuple #[.agg #[.int .i64 0, .int .i64 0, .int .i64 0, .slice none 0 0, .bool false], .int .i64 0, .int .i64 (valR S T K L)]) (by simp [results, Tryd.results23, go_sem, *]) rfl ⟨_, rfl, ⟨none, 0, 0, rfl, RdB.none_ _ _⟩, ?_⟩
    have l3 : w.heap.size ≤ w.heap.size + 1 + 1 := by omega
    exact bset (bset (bset (bset (bset M2.out.2.2.2 _ _ _ l3) _ _ _ l3) _ _ _ l3) _ _ _ l3) _ _ _ l3
end Go.Proofs.YtdifilhfmbpalaaDoor
