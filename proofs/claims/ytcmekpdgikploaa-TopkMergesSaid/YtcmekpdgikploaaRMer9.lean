/- The contract of the reference's MergeTop, where both summaries are valid and of one size. -/
import Derived.Test.YtcmekpdgikploaaRMerS
import Derived.Deep.Cut
import Derived.Deep.RegionHeld3
namespace Go.Proofs.Ytcmekpdgikploaa
open Go.RowKit
set_option linter.unusedVariables false
set_option linter.unusedSimpArgs false
set_option maxRecDepth 100000 in
set_option maxHeartbeats 4000000 in
theorem rmerG_any (S T : Int) (L : List Ent) (s : Bool) (T2 : Int) (M : List Ent) (s2 : Bool) (a : Option Addr) (n cap : Nat) (a2 : Option Addr) (n2 cap2 : Nat) (w : World) (S0 : -9223372036854775808 ≤ S) (S1 : S ≤ 9223372036854775807) (T0 : -9223372036854775808 ≤ T) (T1 : T ≤ 9223372036854775807) (U0 : -9223372036854775808 ≤ T2) (U1 : T2 ≤ 9223372036854775807) (hr : RdE L (.slice a n cap) w) (hr2 : RdE M (.slice a2 n2 cap2) w) (hva : valE S T L = 0) (hvb : valE S T2 M = 0) :
    Calls Try.prog 21 #[.agg #[.int .i64 S, .int .i64 T, .slice a n cap, .bool s], .agg #[.int .i64 S, .int .i64 T2, .slice a2 n2 cap2, .bool s2]] w fun e w' =>
      ∃ v, e = .returned (.tuple #[v, .int .i64 0]) ∧ OwnT w.heap.size ⟨S, tS T T2, merL S L M, s || s2 || jf (pAB L M (leastI S L) (leastI S M)) || tF T T2⟩ v w' ∧ Below w.heap.size w w' := by
  obtain ⟨a', cap', he⟩ := hr.shape
  simp only [Value.slice.injEq] at he
  obtain ⟨rfl, rfl, rfl⟩ := he
  obtain ⟨a2', cap2', he⟩ := hr2.shape
  simp only [Value.slice.injEq] at he
  obtain ⟨rfl, rfl, rfl⟩ := he
  have hy := hr.1
  have hy2 := hr2.1
  have hv1 := valE_ok hva
  have hv2 := valE_ok hvb
  have ho1 := hv1.one'
  have ho2 := hv2.one'
  have hl1 := hv1.small
  have hl2 := hv2.small
  have HR := Lib.hid hr
  have HR2 := Lib.hid hr2
  have HV := Lib.hid (fun (w' : World) (hb : Below w.heap.size w w') => rval_any S T L s a L.length cap w' S0 S1 T0 T1 (hr.below hb) (by omega))
  have HV2 := Lib.hid (fun (w' : World) (hb : Below w.heap.size w w') => rval_any S T2 M s2 a2 M.length cap2 w' S0 S1 U0 U1 (hr2.below hb) (by omega))
  have hS := Lib.hid (⟨hv1.s0, hv1.s1⟩ : 1 ≤ S ∧ S ≤ 32)
  -- what FindTop gives at a key of either
  have hf1 := fun (k : ByteArray) (hk : keyB (byt k) = true) => (show findE S T L k = 0 by unfold findE; rw [if_neg (by rw [hva]; simp), if_neg (by rw [hk]; simp)])
  have hf2 := fun (k : ByteArray) (hk : keyB (byt k) = true) => (show findE S T2 M k = 0 by unfold findE; rw [if_neg (by rw [hvb]; simp), if_neg (by rw [hk]; simp)])
  have HF1 : Hid (∀ (k : ByteArray) (hk : keyB (byt k) = true) (hz : k.size ≤ maxLen) (w' : World) (hb : Below w.heap.size w w'), Calls Try.prog 50 #[.agg #[.int .i64 S, .int .i64 T, .slice a L.length cap, .bool s], .string k] w' fun e u => e = .returned (.tuple #[.agg #[.string (entAt L k (leastI S L)).k, .int .i64 (entAt L k (leastI S L)).c, .int .i64 (entAt L k (leastI S L)).e], .bool (findB S T L k), .int .i64 0]) ∧ Below w'.heap.size w' u) := Lib.hid (fun k hk hz w' hb => by
    have h := rfindT_any S T L s k a L.length cap w' S0 S1 T0 T1 hz (hr.below hb) (by omega)
    rw [hf1 k hk] at h
    have e : findX S T L k = entAt L k (leastI S L) := by unfold findX; rw [if_neg (by rw [hf1 k hk]; simp)]
    rw [e] at h
    exact h)
  have HF2 : Hid (∀ (k : ByteArray) (hk : keyB (byt k) = true) (hz : k.size ≤ maxLen) (w' : World) (hb : Below w.heap.size w w'), Calls Try.prog 50 #[.agg #[.int .i64 S, .int .i64 T2, .slice a2 M.length cap2, .bool s2], .string k] w' fun e u => e = .returned (.tuple #[.agg #[.string (entAt M k (leastI S M)).k, .int .i64 (entAt M k (leastI S M)).c, .int .i64 (entAt M k (leastI S M)).e], .bool (findB S T2 M k), .int .i64 0]) ∧ Below w'.heap.size w' u) := Lib.hid (fun k hk hz w' hb => by
    have h := rfindT_any S T2 M s2 k a2 M.length cap2 w' S0 S1 U0 U1 hz (hr2.below hb) (by omega)
    rw [hf2 k hk] at h
    have e : findX S T2 M k = entAt M k (leastI S M) := by unfold findX; rw [if_neg (by rw [hf2 k hk]; simp)]
    rw [e] at h
    exact h)
  have HKB : Hid (∀ i, i < L.length + M.length → keyB (byt ((L ++ M).getD i Ent.z).k) = true ∧ ((L ++ M).getD i Ent.z).ok) := Lib.hid (fun i hi => by
    refine ⟨?_, (hy.app hy2).at_ i⟩
    by_cases h : i < L.length
    · have hg : (L ++ M).getD i Ent.z = L.getD i Ent.z := by simp [List.getD, List.getElem?_append_left h]
      have := hv1.ent i h
      rw [hg]
      unfold entE at this
      cases hk : keyB (byt (L.getD i Ent.z).k) with
      | true => rfl
      | false => rw [if_pos hk] at this; cases this
    · obtain ⟨j, rfl⟩ : ∃ j, i = L.length + j := ⟨i - L.length, by omega⟩
      have hg : (L ++ M).getD (L.length + j) Ent.z = M.getD j Ent.z := by simp [List.getD, List.getElem?_append_right]
      have := hv2.ent j (by omega)
      rw [hg]
      unfold entE at this
      cases hk : keyB (byt (M.getD j Ent.z).k) with
      | true => rfl
      | false => rw [if_pos hk] at this; cases this)
  rw [hva] at HV
  rw [hvb] at HV2
  have M0 := Lib.hid (MB.new w S T (.slice a L.length cap) s S T2 (.slice a2 M.length cap2) s2)
  have hlb := leastI_bd (S := S) hy2
  have hla := leastI_bd (S := S) hy
  have HRS : Hid (merL S L M = (sortE (jn (pB L M (leastI S L) (leastI S M) M.length))).take (min (jn (pB L M (leastI S L) (leastI S M) M.length)).length S.toNat) ∧ jf (pAB L M (leastI S L) (leastI S M)) = jf (pB L M (leastI S L) (leastI S M) M.length)) := Lib.hid ⟨rfl, rfl⟩
  generalize merL S L M = MR at *
  generalize jf (pAB L M (leastI S L) (leastI S M)) = JR at *
  generalize leastI S M = lb at *
  generalize leastI S L = la at *
  have HSUM := Lib.hid (fun w => rsum_any T T2 w T0 T1 U0 U1)
  generalize tS T T2 = tt at *
  generalize tF T T2 = tf at *
  have HST := Lib.hid (fun i hi k hk => pR_step ho1 ho2 la lb (i := i) hi (k := k) hk)
  have HPL := Lib.hid (fun i => pR_len L M la lb i)
  have HEA := Lib.hid (fun k hk => entAt_ok hy (k := k) hk hla)
  have HEB := Lib.hid (fun k hk => entAt_ok hy2 (k := k) hk hlb)
  have HLN : Hid (L.length ≤ 32 ∧ M.length ≤ 32) := Lib.hid ⟨hl1, hl2⟩
  clear hr hr2 hva hvb hv1 hv2 hf1 hf2 ho1 ho2 hla hlb hl1 hl2
  go_enter Try.func21, Try.ntmps21
  go_upto_region 10 with (first
    | (go_at_call 18; (with_reducible refine (HV.out _ M0.out.bel).mono ?_); rintro e w2 ⟨rfl, hb2⟩; have M2 := Lib.hid (M0.out.go hb2); obtain ⟨⟨p0, p1, p2, p3⟩, ⟨q0, q1, q2, q3⟩, -, -⟩ := M2.out.cells; clear hb2)
    | (go_at_call 18; (with_reducible refine (HV2.out _ M2.out.bel).mono ?_); rintro e w3 ⟨rfl, hb3⟩; have M3 := Lib.hid (M2.out.go hb3); clear p0 p1 p2 p3 q0 q1 q2 q3; obtain ⟨⟨p0, p1, p2, p3⟩, ⟨q0, q1, q2, q3⟩, -, -⟩ := M3.out.cells; clear hb3)
    | (go_at_call 37; refine (HSUM.out _).mono ?_; rintro e w' ⟨rfl, rfl⟩))
  refine wp_meetX 10 50 13 (fun v wx => v = .pointer (some ⟨w3.heap.size, 0, none⟩) ∧ wx = w3.alloc (.cells #[.int .i64 S, .int .i64 tt, .slice none 0 0, .bool (s || s2 || tf)] 25)) ?_ ?_
  · intro G hG
    have hc : s = true ∨ (s = false ∧ s2 = true) ∨ (s = false ∧ s2 = false) := by cases s <;> cases s2 <;> simp
    rcases hc with rfl | ⟨rfl, rfl⟩ | ⟨rfl, rfl⟩
    all_goals
      go_wp2
      exact hG _ _ _ ⟨[_, _, _, _, _, _, _, _, _, _, _, _, _], rfl, rfl⟩ ⟨rfl, rfl⟩
  intro aX wX vX hoff hX
  obtain ⟨us, hus, rfl⟩ := hoff
  obtain ⟨rfl, rfl⟩ := hX
  match us, hus with
  | [u0, u1, u2, u3, u4, u5, u6, u7, u8, u9, u10, u11, u12], _ =>
    simp only [List.set_cons_succ, List.set_cons_zero, List.take_succ_cons, List.take_zero, List.drop_succ_cons, List.drop_zero, List.cons_append, List.nil_append]
    have HG : Hid (w.heap.size + 3 ≤ w3.heap.size) := Lib.hid (by have := M3.out.lt; omega)
    have MX := Lib.hid (M3.out.al (.cells #[.int .i64 S, .int .i64 tt, .slice none 0 0, .bool (s || s2 || tf)] 25))
    have TX := Lib.hid (TopS.new S tt (.slice none 0 0) (s || s2 || tf) 25 w3)
    have HZX : Hid (w3.heap.size + 1 = (w3.alloc (.cells #[.int .i64 S, .int .i64 tt, .slice none 0 0, .bool (s || s2 || tf)] 25)).heap.size) := Lib.hid (by simp)
    clear p0 p1 p2 p3 q0 q1 q2 q3 M0 M2 M3 HV HV2 HSUM
    generalize hr0 : (s || s2 || tf) = r0 at *
    have HR0 := Lib.hid hr0
    clear hr0
    generalize w3.alloc (.cells #[.int .i64 S, .int .i64 tt, .slice none 0 0, .bool r0] 25) = wX at *
    have S0 : wX.drew.cell? ⟨w.heap.size, 2, none⟩ = some (.slice a L.length cap) ∧ wX.drew.cell? ⟨w.heap.size + 1, 2, none⟩ = some (.slice a2 M.length cap2) := ⟨MX.out.drew.cells.1.2.2.1, MX.out.drew.cells.2.1.2.2.1⟩
    go_upto_region 11 with (fail)
    refine wp_meetX 11 63 6 (fun v wx => ∃ aB cB, v = .slice aB (L.length + M.length) cB ∧ Hid (RM w S T (.slice a L.length cap) s T2 (.slice a2 M.length cap2) s2 w3.heap.size tt r0 (L ++ M) (.slice aB (L.length + M.length) cB) wx.heap.size wx ∧ (Value.slice aB (L.length + M.length) cB).ownBlock ≠ some w3.heap.size)) ?_ ?_
    · intro G hG
      go_region_held3 (fun u => u.cell? ⟨w.heap.size, 2, none⟩ = some (.slice a L.length cap) ∧ u.cell? ⟨w.heap.size + 1, 2, none⟩ = some (.slice a2 M.length cap2)) (first | with_reducible assumption | go_keep) (first
        | (refine step_appE rfl _ _ _ rfl wX.heap.size L M _ _ rfl rfl O4.out F4.out Z4.out (by have := HLN.out; omega) ?_; (intro v5 w5 ho5 hb5; have O5 := Lib.hid ho5; have B5 := Lib.hid (B4.out.trans hb5); have S5 : w5.cell? ⟨w.heap.size, 2, none⟩ = some (.slice a L.length cap) ∧ w5.cell? ⟨w.heap.size + 1, 2, none⟩ = some (.slice a2 M.length cap2) := ⟨(MX.out.go B5.out).cells.1.2.2.1, (MX.out.go B5.out).cells.2.1.2.2.1⟩; clear ho5 hb5))
        | (refine step_appE rfl _ _ _ rfl wX.heap.size [] L _ _ rfl rfl (OwnE.empty _ _) (HR.out.below MX.out.drew.bel).src (Nat.le_refl _) (by have := HLN.out; simp; omega) ?_; (intro v4 w4 ho4 hb4; rw [List.nil_append] at ho4; have O4 := Lib.hid ho4; have B4 : Hid (Below wX.heap.size wX w4) := Lib.hid ((Below.refl wX.heap.size wX).drew.trans hb4); have Z4 : Hid (wX.heap.size ≤ w4.heap.size) := Lib.hid B4.out.size; have F4 := Lib.hid (HR2.out.below (bgo MX.out.bel B4.out)).src; have S4 : w4.cell? ⟨w.heap.size, 2, none⟩ = some (.slice a L.length cap) ∧ w4.cell? ⟨w.heap.size + 1, 2, none⟩ = some (.slice a2 M.length cap2) := ⟨(MX.out.go B4.out).cells.1.2.2.1, (MX.out.go B4.out).cells.2.1.2.2.1⟩; clear ho4 hb4)))
      all_goals
        have hs := O5.out.rd.shape
        rw [List.length_append] at hs
        obtain ⟨a5, c5, rfl⟩ := hs
        exact hG _ _ _ ⟨[_, _, _, _, _, _], rfl, rfl⟩ ⟨a5, c5, rfl, Lib.hid ⟨⟨MX.out.go B5.out, TX.out.below B5.out TX.out.lt, O5.out.mono (Nat.zero_le _), HG.out, (TX.out.below B5.out TX.out.lt).lt, fun k e => (World.ownsRow.lt O5.out.2 k e).2, Nat.le_refl _⟩, fun e => by have := (World.ownsRow.lt O5.out.2 _ e).1; have := HZX.out; omega⟩⟩
    · intro aY wY vY hoff hX
      obtain ⟨us2, hus2, rfl⟩ := hoff
      obtain ⟨aB, cB, rfl, HJ⟩ := hX
      match us2, hus2 with
      | [y0, y1, y2, y3, y4, y5], _ =>
        simp only [List.set_cons_succ, List.set_cons_zero, List.take_succ_cons, List.take_zero, List.drop_succ_cons, List.drop_zero, List.cons_append, List.nil_append]
        clear S0 MX TX HZX HR HR2
        have HNE := Lib.hid HJ.out.2
        have HI : Hid (OwnE wY.heap.size (jn (pR L M la lb 0)) (.slice none 0 0) wY ∧ (RM w S T (.slice a L.length cap) s T2 (.slice a2 M.length cap2) s2 w3.heap.size tt (r0 || jf (pR L M la lb 0)) (L ++ M) (.slice aB (L.length + M.length) cB) wY.heap.size) wY) := Lib.hid ⟨by rw [pR_zero]; exact OwnE.empty _ _, by rw [pR_zero]; simpa [jf] using HJ.out.1⟩
        clear HJ
        have hlM := HLN.out
        go_wp2
        go_loopw [12, 13, 14, 15, 16, 17, 18, 19, 20, 21, 22, 23] (fun v i _ _ _ _ _ _ _ _ _ _ wr => ∃ (q : Nat) (aL : Option Addr) (nL cL : Nat), q ≤ L.length + M.length ∧ i = .int .i64 (q : Int) ∧ v = .slice aL nL cL ∧ Hid (OwnE wY.heap.size (jn (pR L M la lb q)) (.slice aL nL cL) wr ∧ (RM w S T (.slice a L.length cap) s T2 (.slice a2 M.length cap2) s2 w3.heap.size tt (r0 || jf (pR L M la lb q)) (L ++ M) (.slice aB (L.length + M.length) cB) wY.heap.size) wr)) (fun _ i _ _ _ _ _ _ _ _ _ _ _ => L.length + M.length - (intOf i).toNat)
        case atStart => exact ⟨0, none, 0, 0, by omega, rfl, rfl, HI⟩
        case round =>
          clear HI
          obtain ⟨q, aL, nL, cL, hq, rfl, rfl, HI⟩ := hrel
          have hnL : nL = (jn (pR L M la lb q)).length := by
            obtain ⟨a', cap', he⟩ := HI.out.1.rd.shape
            simp only [Value.slice.injEq] at he
            exact he.2.1
          subst hnL
          by_cases hlt : q < L.length + M.length
          · obtain ⟨gB, rfl, -, -, -, -, -⟩ := HI.out.2.own.block (by rw [List.length_append]; omega)
            have HQ : Hid (RL w S T (.slice a L.length cap) s T2 (.slice a2 M.length cap2) s2 w3.heap.size tt (r0 || jf (pR L M la lb q)) (L ++ M) gB (L.length + M.length) cB wY.heap.size (jn (pR L M la lb q)) (.slice aL (jn (pR L M la lb q)).length cL) wr) := Lib.hid ⟨HI.out.1, HI.out.2⟩
            obtain ⟨K, hK⟩ : ∃ K, ((L ++ M).getD q Ent.z).k = K := ⟨_, rfl⟩
            have hkb := HKB.out q hlt
            have HKe := Lib.hid hK
            have hst := HST.out q hlt K hK
            have hpl := HPL.out q
            rw [hK] at hkb
            have HKk := Lib.hid (⟨hkb.1, hkb.2.1⟩ : keyB (byt K) = true ∧ ((L ++ M).getD q Ent.z).k.size ≤ maxLen)
            rw [hK] at HKk
            have hlen : (L ++ M).length = L.length + M.length := by rw [List.length_append]
            have HLE := Lib.hid hlen
            have hqI : (q : Int) < (L.length : Int) + (M.length : Int) := by omega
            have hjl : (jn (pR L M la lb q)).length ≤ 64 := by rw [jn_len]; omega
            have hfi := findI_cases (jn (pR L M la lb q)) K
            have HFI := Lib.hid (fun w' h => rfind_any (jn (pR L M la lb q)) K aL (jn (pR L M la lb q)).length cL w' h (by omega))
            have hc9 := HQ.out.c9 hlen hlt hK
            obtain ⟨⟨p0, p1, p2, p3, q0, q1, q2, q3⟩, x0⟩ := hc9
            clear hK hlen HI hkb
            generalize hP : pR L M la lb q = P at *
            rcases hfi with ⟨hh, j, hj, hfj, -⟩ | ⟨hh, hfj⟩
            · have HPE := Lib.hid (hst.1 hh)
              rw [hfj] at HFI
              clear hst hh hfj
              have hj0 : (0 : Int) ≤ (j : Int) := by omega
              go_wp2_with (go_at_call 38; (with_reducible refine (HFI.out _ HQ.out.own.rd).mono ?_); rintro e w' ⟨rfl, rfl⟩)
              exact ⟨⟨q + 1, aL, _, cL, by omega, by go_num, rfl, Lib.hid (by rw [HPE.out]; exact ⟨HQ.out.1, HQ.out.2⟩)⟩, by simp [intOf]; omega⟩
            · have HPE := Lib.hid (hst.2 hh)
              rw [hfj] at HFI
              have HF1K := Lib.hid (fun w' hb => HF1.out K HKk.out.1 HKk.out.2 w' hb)
              have HF2K := Lib.hid (fun w' hb => HF2.out K HKk.out.1 HKk.out.2 w' hb)
              have hX := HEA.out K HKk.out.2
              have hY := HEB.out K HKk.out.2
              have hXk := entAt_key L K la
              clear hst hh hfj
              generalize entAt L K la = X at *
              generalize entAt M K lb = Y at *
              generalize findB S T L K = fb1 at *
              generalize findB S T2 M K = fb2 at *
              have HXY := Lib.hid (⟨hX, hY, hXk⟩ : X.ok ∧ Y.ok ∧ X.k = K)
              clear hX hY hXk
              go_upto_region 17 with (go_at_call 38; (with_reducible refine (HFI.out _ HQ.out.own.rd).mono ?_); rintro e w' ⟨rfl, rfl⟩)
              refine wp_meetL 14 3 83 11 (fun vs wx => ∃ gx : Nat, vs = [.pointer (some ⟨gx, 0, none⟩), .bool fb1, .int .i64 0] ∧ Hid (RL w S T (.slice a L.length cap) s T2 (.slice a2 M.length cap2) s2 w3.heap.size tt (r0 || jf P) (L ++ M) gB (L.length + M.length) cB wY.heap.size (jn P) (.slice aL (jn P).length cL) wx ∧ At3 X gx 0 wx ∧ wY.heap.size ≤ gx)) ?_ ?_
              · intro G hG
                have S0 := HQ.out.drew.c9f HLE.out hlt HKe.out
                go_region_held3 (fun u => u.cell? ⟨w.heap.size, 0, none⟩ = some (.int .i64 S) ∧ u.cell? ⟨w.heap.size, 1, none⟩ = some (.int .i64 T) ∧ u.cell? ⟨w.heap.size, 2, none⟩ = some (.slice a L.length cap) ∧ u.cell? ⟨w.heap.size, 3, none⟩ = some (.bool s) ∧ u.cell? ⟨w.heap.size + 1, 0, none⟩ = some (.int .i64 S) ∧ u.cell? ⟨w.heap.size + 1, 1, none⟩ = some (.int .i64 T2) ∧ u.cell? ⟨w.heap.size + 1, 2, none⟩ = some (.slice a2 M.length cap2) ∧ u.cell? ⟨w.heap.size + 1, 3, none⟩ = some (.bool s2) ∧ u.cell? ⟨gB, q * 3, none⟩ = some (.string K)) (first | with_reducible assumption | ((try dsimp only); with_reducible refine RL.c9f (g := w3.heap.size) (t := tt) (r := r0 || jf P) (cap := cB) (Bz := wY.heap.size) (P := jn P) (vl := .slice aL (jn P).length cL) ?_ HLE.out hlt HKe.out; repeat (first | with_reducible exact J8.out | with_reducible exact HQ.out | with_reducible refine RL.drew ?_ | with_reducible refine RL.al ?_ _ | with_reducible refine RL.putE HQ.out ?_ _ _))) (first
                  | (go_at_call 50; (with_reducible refine (HF1K.out _ (HQ.out.al (.cells #[.string ⟨#[]⟩, .int .i64 0, .int .i64 0] 49)).drew.bel).mono ?_); rintro e w8 ⟨rfl, hb8⟩; have J8 := Lib.hid ((HQ.out.al (.cells #[.string ⟨#[]⟩, .int .i64 0, .int .i64 0] 49)).drew.go hb8); have S8 := J8.out.c9f HLE.out hlt HKe.out; have E8 := Lib.hid (((En3.new' wr).go (Below.refl _ _).drew).go hb8); obtain ⟨⟨z0, z1, z2⟩, z3, z4, z5⟩ := E8.out; have B8 := Lib.hid (((b1 (.cells #[.string ⟨#[]⟩, .int .i64 0, .int .i64 0] 49)).drew).trans (hb8.mono (Nat.le_of_lt (by simp)))); clear hb8)
                  | (go_at_call 50; (with_reducible refine (HF1K.out _ HQ.out.drew.bel).mono ?_); rintro e w8 ⟨rfl, hb8⟩; have J8 := Lib.hid (HQ.out.drew.go hb8); have S8 := J8.out.c9f HLE.out hlt HKe.out; have B8 := Lib.hid ((Below.refl wr.heap.size wr).drew.trans hb8); clear hb8))
                all_goals
                  refine hG _ _ [_, _, _] ⟨rfl, [_, _, _, _, _, _, _, _, _, _, _], rfl, rfl⟩ ?_
                  first
                    | exact ⟨_, rfl, Lib.hid ⟨J8.out.al _, At3.new X w8, J8.out.rm.lt⟩⟩
                    | exact ⟨_, rfl, Lib.hid ⟨HQ.out.putE (HQ.out.putE (HQ.out.putE J8.out _ _) _ _) _ _, At3.laid E8.out, HQ.out.rm.lt⟩⟩
              intro aZ wZ vs hoff hX
              obtain ⟨hvs, us3, hus3, rfl⟩ := hoff
              obtain ⟨gx, rfl, HZ1⟩ := hX
              match us3, hus3 with
              | [z0, z1, z2, z3, z4, z5, z6, z7, z8, z9, z10], _ =>
                simp only [List.set_cons_succ, List.set_cons_zero, List.take_succ_cons, List.take_zero, List.drop_succ_cons, List.drop_zero, List.cons_append, List.nil_append]
                have HQ2 := Lib.hid HZ1.out.1
                have HA2 := Lib.hid HZ1.out.2.1
                have HGX := Lib.hid HZ1.out.2.2
                clear HZ1 hvs
                go_upto_region 18 with (fail)
                refine wp_meetL 17 3 94 11 (fun vs wx => ∃ gy : Nat, vs = [.pointer (some ⟨gy, 0, none⟩), .bool fb2, .int .i64 0] ∧ Hid (RL w S T (.slice a L.length cap) s T2 (.slice a2 M.length cap2) s2 w3.heap.size tt (r0 || jf P) (L ++ M) gB (L.length + M.length) cB wY.heap.size (jn P) (.slice aL (jn P).length cL) wx ∧ At3 Y gy 0 wx ∧ wY.heap.size ≤ gy ∧ At3 X gx 0 wx)) ?_ ?_
                · intro G hG
                  have S0 := HQ2.out.drew.c9f HLE.out hlt HKe.out
                  go_region_held3 (fun u => u.cell? ⟨w.heap.size, 0, none⟩ = some (.int .i64 S) ∧ u.cell? ⟨w.heap.size, 1, none⟩ = some (.int .i64 T) ∧ u.cell? ⟨w.heap.size, 2, none⟩ = some (.slice a L.length cap) ∧ u.cell? ⟨w.heap.size, 3, none⟩ = some (.bool s) ∧ u.cell? ⟨w.heap.size + 1, 0, none⟩ = some (.int .i64 S) ∧ u.cell? ⟨w.heap.size + 1, 1, none⟩ = some (.int .i64 T2) ∧ u.cell? ⟨w.heap.size + 1, 2, none⟩ = some (.slice a2 M.length cap2) ∧ u.cell? ⟨w.heap.size + 1, 3, none⟩ = some (.bool s2) ∧ u.cell? ⟨gB, q * 3, none⟩ = some (.string K)) (first | with_reducible assumption | ((try dsimp only); with_reducible refine RL.c9f (g := w3.heap.size) (t := tt) (r := r0 || jf P) (cap := cB) (Bz := wY.heap.size) (P := jn P) (vl := .slice aL (jn P).length cL) ?_ HLE.out hlt HKe.out; repeat (first | with_reducible exact J9.out | with_reducible exact HQ2.out | with_reducible refine RL.drew ?_ | with_reducible refine RL.al ?_ _ | with_reducible refine RL.putE HQ2.out ?_ _ _))) (first
                    | (go_at_call 50; (with_reducible refine (HF2K.out _ (HQ2.out.al (.cells #[.string ⟨#[]⟩, .int .i64 0, .int .i64 0] 49)).drew.bel).mono ?_); rintro e w9 ⟨rfl, hb8⟩; have J9 := Lib.hid ((HQ2.out.al (.cells #[.string ⟨#[]⟩, .int .i64 0, .int .i64 0] 49)).drew.go hb8); have S9 := J9.out.c9f HLE.out hlt HKe.out; have E9 := Lib.hid (((En3.new' wZ).go (Below.refl _ _).drew).go hb8); obtain ⟨⟨z0, z1, z2⟩, z3, z4, z5⟩ := E9.out; have B8 := Lib.hid (((b1 (.cells #[.string ⟨#[]⟩, .int .i64 0, .int .i64 0] 49)).drew).trans (hb8.mono (Nat.le_of_lt (by simp)))); clear hb8)
                    | (go_at_call 50; (with_reducible refine (HF2K.out _ HQ2.out.drew.bel).mono ?_); rintro e w9 ⟨rfl, hb8⟩; have J9 := Lib.hid (HQ2.out.drew.go hb8); have S9 := J9.out.c9f HLE.out hlt HKe.out; have B8 := Lib.hid ((Below.refl wZ.heap.size wZ).drew.trans hb8); clear hb8))
                  all_goals
                    refine hG _ _ [_, _, _] ⟨rfl, [_, _, _, _, _, _, _, _, _, _, _], rfl, rfl⟩ ?_
                    first
                      | exact ⟨_, rfl, Lib.hid ⟨J9.out.al _, At3.new Y w9, J9.out.rm.lt, HA2.out.stay (B8.out.trans ((b1 _).mono B8.out.size)) HA2.out.lt⟩⟩
                      | exact ⟨_, rfl, Lib.hid ⟨HQ2.out.putE (HQ2.out.putE (HQ2.out.putE J9.out _ _) _ _) _ _, At3.laid E9.out, HQ2.out.rm.lt, HA2.out.stay (bsetB (bsetB (bsetB B8.out _ _ _ (Nat.le_refl _)) _ _ _ (Nat.le_refl _)) _ _ _ (Nat.le_refl _)) HA2.out.lt⟩⟩
                intro aV wV vs2 hoff hX
                obtain ⟨hvs, us4, hus4, rfl⟩ := hoff
                obtain ⟨gy, rfl, HZ2⟩ := hX
                match us4, hus4 with
                | [v0, v1, v2, v3, v4, v5, v6, v7, v8, v9, v10], _ =>
                  simp only [List.set_cons_succ, List.set_cons_zero, List.take_succ_cons, List.take_zero, List.drop_succ_cons, List.drop_zero, List.cons_append, List.nil_append]
                  have HQ3 := Lib.hid HZ2.out.1
                  have HB3 := Lib.hid HZ2.out.2.1
                  have HA3 := Lib.hid HZ2.out.2.2.2
                  clear HZ2 hvs HQ2 HA2 HQ
                  obtain ⟨x0, x1, x2⟩ := HA3.out.zero
                  obtain ⟨y0, y1, y2⟩ := HB3.out.zero
                  have HS1 := Lib.hid (fun w => rsum_any X.c Y.c w HXY.out.1.2.1.1 HXY.out.1.2.1.2 HXY.out.2.1.2.1.1 HXY.out.2.1.2.1.2)
                  have HS2 := Lib.hid (fun w => rsum_any X.e Y.e w HXY.out.1.2.2.1 HXY.out.1.2.2.2 HXY.out.2.1.2.2.1 HXY.out.2.1.2.2.2)
                  have HJF : Hid (joinF X Y = (tF X.c Y.c || tF X.e Y.e)) := Lib.hid rfl
                  have ht := tS_bd X.c Y.c
                  have HJO := Lib.hid (joinE_ok (x := X) (y := Y) HXY.out.1.1)
                  have F7 := Lib.hid (fun w => (OwnE.one HJO.out w).rd.src)
                  generalize tF X.c Y.c = f1 at *
                  generalize tF X.e Y.e = f2 at *
                  go_upto_region 21 with (first
                    | (go_at_call 37; (with_reducible refine (HS1.out _).mono ?_); rintro e w' ⟨rfl, rfl⟩)
                    | (go_at_call 37; (with_reducible refine (HS2.out _).mono ?_); rintro e w' ⟨rfl, rfl⟩))
                  obtain ⟨⟨t0, t1, t2, t3⟩, g0, g1, g2, g3⟩ := HQ3.out.rm.top
                  have HPJ : Hid ((r0 || jf (P ++ [(X, Y)])) = (r0 || jf P || f1 || f2)) := Lib.hid (by rw [jf_app, HJF.out]; simp [Bool.or_assoc])
                  generalize (r0 || jf P) = rq at *
                  refine wp_meet 121 9 (fun wx => wx = wV.setCell ⟨w3.heap.size, 3, none⟩ (.bool (rq || f1 || f2))) ?_ ?_
                  · intro G hG
                    have hc : rq = true ∨ (rq = false ∧ f1 = true) ∨ (rq = false ∧ f1 = false) := by cases rq <;> cases f1 <;> simp
                    rcases hc with rfl | ⟨rfl, rfl⟩ | ⟨rfl, rfl⟩
                    all_goals
                      go_wp2
                      exact hG _ _ ⟨[_, _, _, _, _, _, _, _, _], rfl, rfl⟩ (by first | rfl | simp)
                  intro aU wU hoff hX
                  obtain ⟨us5, hus5, rfl⟩ := hoff
                  subst hX
                  match us5, hus5 with
                  | [k0, k1, k2, k3, k4, k5, k6, k7, k8], _ =>
                    simp only [List.take_succ_cons, List.take_zero, List.drop_succ_cons, List.drop_zero, List.cons_append, List.nil_append]
                    have HQ4 := Lib.hid (HQ3.out.flag HNE.out (rq || f1 || f2))
                    have HA4 := Lib.hid (HA3.out.keep (Below.heap_setCell wV ⟨w3.heap.size, 3, none⟩ (.bool (rq || f1 || f2)) gx (show gx ≠ w3.heap.size by have := HQ3.out.glt; have := HGX.out; omega)))
                    clear t0 t1 t2 t3 g0 g1 g2 g3 x0 x1 x2 y0 y1 y2 HQ3 HA3 HB3 HS1 HS2
                    generalize wV.setCell ⟨w3.heap.size, 3, none⟩ (.bool (rq || f1 || f2)) = wU at *
                    obtain ⟨x0, x1, x2⟩ := HA4.out.zero
                    have O7 := Lib.hid (HQ4.out.own.alloc (.cells #[.string X.k, .int .i64 (tS X.c Y.c), .int .i64 (min (tS X.e Y.e) (tS X.c Y.c - 1))] 49))
                    have Z7 : Hid (wY.heap.size ≤ (wU.alloc (.cells #[.string X.k, .int .i64 (tS X.c Y.c), .int .i64 (min (tS X.e Y.e) (tS X.c Y.c - 1))] 49)).heap.size) := Lib.hid (Nat.le_trans HQ4.out.rm.lt (b1 _).size)
                    have R7 := Lib.hid (HQ4.out.al (.cells #[.string X.k, .int .i64 (tS X.c Y.c), .int .i64 (min (tS X.e Y.e) (tS X.c Y.c - 1))] 49))
                    have G7 : Hid (FromE [joinE X Y] 23 (.slice (some ⟨wU.heap.size, 0, none⟩) 1 1) (wU.alloc (.cells #[.string X.k, .int .i64 (tS X.c Y.c), .int .i64 (min (tS X.e Y.e) (tS X.c Y.c - 1))] 49))) := Lib.hid (F7.out wU)
                    have HLN2 : Hid ((jn P).length + [joinE X Y].length ≤ 1099511627776) := Lib.hid (by simp; omega)
                    have e1 : wrap64 (tS X.c Y.c - 1) = tS X.c Y.c - 1 := by unfold wrap64; omega
                    have e2 : IntKind.i64.wrap (tS X.c Y.c - 1) = tS X.c Y.c - 1 := by rw [IntKind.wrap_i64]; omega
                    go_wp2_with (at_builtin; refine wp_appE rfl _ _ _ rfl wY.heap.size (jn P) [joinE X Y] _ _ rfl rfl O7.out G7.out Z7.out HLN2.out ?_; (intro v9 w9 ho9 hb9; obtain ⟨a9, c9, rfl⟩ := ho9.rd.shape; have R9 := Lib.hid (R7.out.grow ho9 hb9); clear ho9 hb9 O7 R7 Z7 G7))
                    exact ⟨⟨q + 1, a9, _, c9, by omega, by go_num, rfl, Lib.hid (by rw [HPE.out, jn_app, HPJ.out]; have h9 := R9.out; rw [List.length_append, List.length_singleton] at h9; exact ⟨h9.own, h9.rm⟩)⟩, by simp [intOf]; omega⟩
          · obtain rfl : q = L.length + M.length := by omega
            have hqn : ¬ (L.length : Int) + (M.length : Int) < (L.length : Int) + (M.length : Int) := by omega
            have HPA := Lib.hid (pR_all L M la lb)
            have HPL2 := Lib.hid (HPL.out (L.length + M.length))
            rw [HPA.out] at HI HPL2 ⊢
            have HL64 : Hid ((jn (pB L M la lb M.length)).length ≤ 64) := Lib.hid (by have := HPL2.out; rw [jn_len]; omega)
            clear HPA HPL2 HST HF1 HF2 HKB HEA HEB hq hlt
            generalize jn (pB L M la lb M.length) = P at *
            generalize jf (pB L M la lb M.length) = Q at *
            have HRES : Hid (MR = (sortE P).take (min P.length S.toNat) ∧ JR = Q) := HRS
            clear HRS
            have HSR := Lib.hid (rsort_any P (.slice aL P.length cL) wr HI.out.1.rd (by have := HL64.out; omega))
            have J8 := Lib.hid HI.out.2
            clear HI
            obtain ⟨m, hm⟩ : ∃ m : Nat, m = min P.length S.toNat := ⟨_, rfl⟩
            have hSS := hS.out
            have hm1 : min (P.length : Int) S = (m : Int) := by omega
            have hm0 : (0 : Int) ≤ (m : Int) := by omega
            have hm3 : (m : Int) ≤ (P.length : Int) := by omega
            have HM2 : Hid (m ≤ P.length) := Lib.hid (by omega)
            have HMM := Lib.hid hm
            clear hm hSS
            obtain ⟨rq, hrq⟩ : ∃ rq, (r0 || Q) = rq := ⟨_, rfl⟩
            rw [hrq] at J8
            have HRQ := Lib.hid hrq
            clear hrq
            have n1 : ¬ w3.heap.size = w.heap.size + 1 + 1 := by have := HG.out; omega
            have n2 : ¬ w.heap.size + 1 + 1 = w3.heap.size := by omega
            go_wp2_with (go_at_call 40; (with_reducible refine HSR.out.mono ?_); rintro e w8 ⟨v8, rfl, ho8, hb8⟩; obtain ⟨a8, cap8, rfl⟩ := (show ∃ a cap, v8 = .slice a P.length cap by obtain ⟨a, c, h⟩ := ho8.rd.shape; exact ⟨a, c, by rw [h, sortE_len]⟩); have O8 := Lib.hid ho8; have J9 := Lib.hid (J8.out.go hb8); have Z8 := Lib.hid (Nat.lt_of_lt_of_le J8.out.2.2.2.2.1 J8.out.lt); (have hcp : (m : Int) ≤ (cap8 : Int) := (by obtain ⟨-, a1, cap1, he1, h1, -, -⟩ := ho8.rd; simp only [Value.slice.injEq] at he1; obtain ⟨rfl, hl, rfl⟩ := he1; omega)); obtain ⟨⟨t0, t1, t2, t3⟩, g0, g1, g2, g3⟩ := J9.out.top; obtain ⟨-, -, ⟨o0, o1, o2, o3⟩, h0, h1, h2, h3⟩ := J9.out.mb.cells; clear ho8 hb8 J8 HSR)
            refine bodyPost_ret (v := .tuple #[.agg #[.int .i64 S, .int .i64 tt, .slice a8 m cap8, .bool rq], .int .i64 0]) (by simp [results, Try.results21, go_sem, *]) rfl ⟨_, rfl, ⟨a8, m, cap8, by rw [HRES.out.2, ← HRQ.out, ← HR0.out]; cases s <;> cases s2 <;> cases tf <;> cases Q <;> rfl, ?_⟩, ?_⟩
            · rw [HRES.out.1, ← HMM.out]
              refine OwnE.mono (B := wr.heap.size) ?_ (by have := HG.out; have := Z8.out; omega)
              have l3 : w.heap.size + 1 + 1 < wr.heap.size := by have := HG.out; have := Z8.out; omega
              exact (((((O8.out.cut (m := m) (by rw [sortE_len]; exact HM2.out)).keep Z8.out _ _).keep l3 _ _).keep l3 _ _).keep l3 _ _).keep l3 _ _
            · have l3 : w.heap.size ≤ w.heap.size + 1 + 1 := by omega
              have l4 : w.heap.size ≤ w3.heap.size := by have := HG.out; omega
              exact bsetB (bsetB (bsetB (bsetB (bsetB J9.out.bel _ _ _ l4) _ _ _ l3) _ _ _ l3) _ _ _ l3) _ _ _ l3
end Go.Proofs.Ytcmekpdgikploaa
