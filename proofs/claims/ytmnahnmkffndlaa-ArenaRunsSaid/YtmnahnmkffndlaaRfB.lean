/- The reference's Alloc of pages. -/
import Derived.Test.YtmnahnmkffndlaaRfR
import Derived.BigRegion
import Derived.Test.YtmnahnmkffndlaaMeetX
import Derived.Deep.RegionHeld3
namespace Go.Proofs.Ytmnahnmkffndlaa
open Go.RowKit Go.Maps
set_option linter.unusedVariables false
set_option linter.unusedSimpArgs false
theorem insP_split (q : Pg) : ∀ {L : List Pg} {m : Int} (k : Nat), AscP m L → k ≤ L.length → (∀ x ∈ L.drop k, q.n < x.n) → (0 < k → ¬ q.n < (L.getD (k - 1) Pg.z).n) → insP q L = L.take k ++ q :: L.drop k
  | [], m, k, _, hk, _, _ => by
    have : k = 0 := by simpa using hk
    subst this
    rfl
  | p :: L, m, 0, _, _, h, _ => by
    have := h p (by simp)
    unfold insP
    rw [if_pos this]
    rfl
  | p :: L, m, k + 1, ha, hk, h, hl => by
    have hk' : k ≤ L.length := by simpa using hk
    have hl' := hl (by omega)
    have hp : ¬ q.n < p.n := by
      cases k with
      | zero => simpa [List.getD] using hl'
      | succ j =>
        have e : ((p :: L).getD (j + 1 + 1 - 1) Pg.z) = L.getD j Pg.z := by simp [List.getD]
        rw [e] at hl'
        have := ha.2.low (L.getD j Pg.z) (by simp [List.getD, show j < L.length by omega])
        omega
    unfold insP
    rw [if_neg hp, insP_split q k ha.2 hk' (by simpa using h) (fun h0 => by
      have e : ((p :: L).getD (k + 1 - 1) Pg.z) = L.getD (k - 1) Pg.z := by
        obtain ⟨j, rfl⟩ : ∃ j, k = j + 1 := ⟨k - 1, by omega⟩
        simp [List.getD]
      rw [e] at hl'
      exact hl')]
    rfl
theorem swp_pm {M : List PM} {q : Nat} (m : PM) (hq : q < M.length) : ((M.take (q + 1) ++ m :: M.drop (q + 1)).set (q + 1) (M.getD q PM.z)).set q m = M.take q ++ m :: M.drop q := by
  have e1 : M.take (q + 1) = M.take q ++ [M.getD q PM.z] := by
    rw [List.take_succ_eq_append_getElem hq]
    simp [List.getD, hq]
  have e2 : M.drop q = M.getD q PM.z :: M.drop (q + 1) := by
    rw [List.drop_eq_getElem_cons hq]
    simp [List.getD, hq]
  have l1 : (M.take q).length = q := by rw [List.length_take]; omega
  rw [e2, e1, List.append_assoc]
  rw [List.set_append_right _ _ (by omega), l1]
  simp only [show q + 1 - q = 1 by omega, List.cons_append, List.nil_append, List.set_cons_succ, List.set_cons_zero]
  rw [List.set_append_right _ _ (by omega), l1]
  simp [List.getD, hq]
theorem mid_at {M : List PM} {k : Nat} (m : PM) (hk : k ≤ M.length) : (M.take k ++ m :: M.drop k).getD k PM.z = m := by
  have l1 : (M.take k).length = k := by rw [List.length_take]; omega
  simp [List.getD, List.getElem?_append_right, l1]
theorem mid_low {M : List PM} {q : Nat} (m : PM) (hq : q < M.length) : (M.take (q + 1) ++ m :: M.drop (q + 1)).getD q PM.z = M.getD q PM.z := by
  have l1 : (M.take (q + 1)).length = q + 1 := by rw [List.length_take]; omega
  simp [List.getD, List.getElem?_append_left, l1, List.getElem?_take, hq]
theorem mid_len {M : List PM} {k : Nat} (m : PM) (hk : k ≤ M.length) : (M.take k ++ m :: M.drop k).length = M.length + 1 := by
  simp
  omega
/-- What the exchange of two neighbours leaves. -/
theorem swp_pmo {B g cap q : Nat} {M : List PM} {m : PM} {N : Nat} {w : World} (hq : q < M.length) (hN : N = M.length + 1) (h : OwnPM B (M.take (q + 1) ++ m :: M.drop (q + 1)) (.slice (some ⟨g, 0, none⟩) N cap) w) (hX : m.ok) (hY : (M.getD q PM.z).ok) :
    OwnPM B (M.take q ++ m :: M.drop q) (.slice (some ⟨g, 0, none⟩) N cap) ((((((w.setCell ⟨g, (q + 1) * 3, none⟩ (.int .i64 (M.getD q PM.z).n)).setCell ⟨g, (q + 1) * 3 + 1, none⟩ (.int .i64 (M.getD q PM.z).r)).setCell ⟨g, (q + 1) * 3 + 2, none⟩ (M.getD q PM.z).s).setCell
      ⟨g, q * 3, none⟩ (.int .i64 m.n)).setCell ⟨g, q * 3 + 1, none⟩ (.int .i64 m.r)).setCell ⟨g, q * 3 + 2, none⟩ m.s) := by
  have e : N = (M.take (q + 1) ++ m :: M.drop (q + 1)).length := by rw [mid_len m (by omega), hN]
  rw [e] at h
  have h1 := h.stored (q + 1) hY
  have e1 : (M.take (q + 1) ++ m :: M.drop (q + 1)).length = ((M.take (q + 1) ++ m :: M.drop (q + 1)).set (q + 1) (M.getD q PM.z)).length := by rw [List.length_set]
  rw [e1] at h1
  have h2 := h1.stored q hX
  rw [swp_pm m hq, ← e1, ← e] at h2
  exact h2
theorem six_kpt {g N cap : Nat} {B : Nat} {M : List PM} {w : World} (h : OwnPM B M (.slice (some ⟨g, 0, none⟩) N cap) w) {T : TypeId} (hT : T ≠ 54) (j1 j2 j3 j4 j5 j6 : Nat) (u1 u2 u3 u4 u5 u6 : Value) :
    KpT T w ((((((w.setCell ⟨g, j1, none⟩ u1).setCell ⟨g, j2, none⟩ u2).setCell ⟨g, j3, none⟩ u3).setCell ⟨g, j4, none⟩ u4).setCell ⟨g, j5, none⟩ u5).setCell ⟨g, j6, none⟩ u6) := by
  obtain ⟨cur, hg⟩ : ∃ cur, w.heap[g]? = some (.cells cur 54 (0, 0)) := by
    rcases h.2.2 with ⟨he, _⟩ | ⟨g', cap', cur, he, _, hg, _⟩
    · cases he
    · simp only [Value.slice.injEq, Option.some.injEq, Addr.mk.injEq] at he
      obtain ⟨⟨rfl, _⟩, _⟩ := he
      exact ⟨cur, hg⟩
  have t0 : TyAt g cur 54 w := hg
  have t1 := t0.set1 j1 u1
  have t2 := t1.set1 j2 u2
  have t3 := t2.set1 j3 u3
  have t4 := t3.set1 j4 u4
  have t5 := t4.set1 j5 u5
  exact (((((t0.kpt hT j1 u1).trans (t1.kpt hT j2 u2)).trans (t2.kpt hT j3 u3)).trans (t3.kpt hT j4 u4)).trans (t4.kpt hT j5 u5)).trans (t5.kpt hT j6 u6)
theorem OwnPM.drw {B : Nat} {L : List PM} {v : Value} {w : World} (h : OwnPM B L v w) : OwnPM B L v w.drew := h
theorem TyAt.drw {g : Nat} {A : Array Value} {T : TypeId} {w : World} (h : TyAt g A T w) : TyAt g A T w.drew := h
theorem PmAt.drw {B : Nat} {M : List PM} {L : List Pg} {w : World} (h : PmAt B M L w) : PmAt B M L w.drew := h.kpb (fun _ _ _ => rfl)
theorem six_bel {a w : World} (h : Below a.heap.size a w) {g : Nat} (hg : a.heap.size ≤ g) (j1 j2 j3 j4 j5 j6 : Nat) (u1 u2 u3 u4 u5 u6 : Value) :
    Below a.heap.size a ((((((w.setCell ⟨g, j1, none⟩ u1).setCell ⟨g, j2, none⟩ u2).setCell ⟨g, j3, none⟩ u3).setCell ⟨g, j4, none⟩ u4).setCell ⟨g, j5, none⟩ u5).setCell ⟨g, j6, none⟩ u6) :=
  bset (bset (bset (bset (bset (bset h _ _ _ hg) _ _ _ hg) _ _ _ hg) _ _ _ hg) _ _ _ hg) _ _ _ hg
set_option maxRecDepth 100000 in
theorem ralloc_big (M : List PM) (L : List Pg) (c : Int) (v : Value) (w : World) (d : List Int) (a : Option Addr) (cap : Nat) (hv : OwnPM 0 M v w) (hd : 1024 < d.length) (hd2 : d.length ≤ 1000000000000) :
    Calls Try.prog 10 #[.agg #[.int .i64 c, v], .slice a d.length cap] w fun e w' => e = .returned (.tuple #[.agg #[.int .i64 c, v], .int .i64 0, .int .i64 11]) ∧ Below w.heap.size w w' := by
  have hd1 : (1024 : Int) < (d.length : Int) := by omega
  obtain ⟨a1, cap1, rfl⟩ := hv.rd.shape
  clear hv hd
  go_enter Try.func10, Try.ntmps10
  go_wp2
  exact ret_row3 rfl rfl rfl rfl rfl (RowAt.new1 w _ _ _) Try.underlying29 rfl inf_ra ⟨rfl, b2 _ _⟩
set_option maxRecDepth 100000 in
theorem ralloc_full (M : List PM) (L : List Pg) (c : Int) (v : Value) (w : World) (d : List Int) (a : Option Addr) (cap : Nat) (hv : OwnPM 0 M v w) (hp : PmAt 0 M L w) (hd : d.length ≤ 1024) (hf : c ≤ (L.length : Int)) :
    Calls Try.prog 10 #[.agg #[.int .i64 c, v], .slice a d.length cap] w fun e w' => e = .returned (.tuple #[.agg #[.int .i64 c, v], .int .i64 0, .int .i64 14]) ∧ Below w.heap.size w w' := by
  have hd1 : ¬ (1024 : Int) < (d.length : Int) := by omega
  obtain ⟨a1, cap1, rfl⟩ := hv.rd.shape
  rw [hp.len]
  clear hv hd hp
  go_enter Try.func10, Try.ntmps10
  go_wp2
  exact ret_row3 rfl rfl rfl rfl rfl (RowAt.new1 w _ _ _) Try.underlying29 rfl inf_ra ⟨rfl, b2 _ _⟩
set_option maxRecDepth 100000 in
set_option maxHeartbeats 4000000 in
theorem ralloc_ok (M : List PM) (L : List Pg) (c : Int) (v : Value) (w : World) (B0 : Nat) (d : List Int) (u : Value) (hv : OwnPM 0 M v w) (hp : PmAt 0 M L w) (ha : AscP 1 L) (hL : L.length ≤ 1000000) (hu : Own B0 d u w) (hd : d.length ≤ 1024) (hf : (L.length : Int) < c) :
    Calls Try.prog 10 #[.agg #[.int .i64 c, v], u] w fun e w' => ∃ v' M', e = .returned (.tuple #[.agg #[.int .i64 c, v'], .int .i64 (frN 1 L), .int .i64 0]) ∧ OwnPM 0 M' v' w' ∧ PmAt 0 M' (insP ⟨frN 1 L, 1, d⟩ L) w' ∧ Below w.heap.size w w' := by
  have hd1 : ¬ (1024 : Int) < (d.length : Int) := by omega
  obtain ⟨a1, cap1, rfl⟩ := hv.rd.shape
  obtain ⟨a2, cap2, rfl⟩ := hu.shape
  have hlen := hp.len
  have HV := Lib.hid hv
  have HP := Lib.hid hp
  have HA := Lib.hid ha
  have HU := Lib.hid hu
  have HD := Lib.hid hd
  have hf2 : ¬ c ≤ (L.length : Int) := by omega
  have hle := frN_le L 1
  have hfr : 1 ≤ frN 1 L ∧ frN 1 L ≤ 1000001 := by omega
  rw [hlen]
  have HLn := Lib.hid hlen
  have hix := fun (n : Int) (wr : World) (hb : Below w.heap.size w wr) => index_any M L c n 1 _ wr (HV.out.below hb) (HP.out.kpb (KpB.below hb)) ha hL
  rw [hlen] at hix
  have HIX := Lib.hid hix
  clear hv hp ha hu hd hle hlen hix
  go_enter Try.func10, Try.ntmps10
  go_wp2
  go_loopw [7] (fun n wr => ∃ k : Int, 1 ≤ k ∧ k ≤ frN 1 L ∧ n = .int .i64 k ∧ Hid (Below w.heap.size w wr ∧ TyAt w.heap.size #[.int .i64 c, .slice a1 L.length cap1] 29 wr ∧ TyAt (w.heap.size + 1) #[.int .i64 0, .slice none 0 0] 29 wr)) (fun n _ => (frN 1 L - intOf n).toNat)
  case atStart => exact ⟨1, by omega, hfr.1, rfl, Lib.hid ⟨b2 _ _, (TyAt.new w _ _).go (Go.Proofs.Ytmnahnmkffndlaa.b1 _), TyAt.new1 w _ _ _⟩⟩
  case round =>
    obtain ⟨k, k1, k2, rfl, HB⟩ := hrel
    have r0 := HB.out.2.1.row.cell (j := 0) rfl
    have r1 := HB.out.2.1.row.cell (j := 1) rfl
    have lt1 := HB.out.2.1.lt
    by_cases hk : k < frN 1 L
    · obtain ⟨p, hp⟩ := frN_some (j := k) HA.out k1 hk
      go_wp2_with (go_at_call 23; refine (HIX.out k wr HB.out.1).mono ?_; rintro e w2 ⟨i, rfl, hpos, hb2⟩; obtain ⟨j, hj, rfl, -⟩ := hpos.some hp; have hj0 : (0 : Int) ≤ (j : Int) := (by omega); have B2 := Lib.hid (show Below w.heap.size w w2 ∧ TyAt w.heap.size #[.int .i64 c, .slice a1 L.length cap1] 29 w2 ∧ TyAt (w.heap.size + 1) #[.int .i64 0, .slice none 0 0] 29 w2 from ⟨bgo HB.out.1 hb2, HB.out.2.1.go hb2, HB.out.2.2.go hb2⟩); clear hpos hb2)
      go_roundw
      case rel => exact ⟨k + 1, by omega, by omega, rfl, B2⟩
      case measure => simp [intOf]; omega
    · have hkn : k = frN 1 L := by omega
      have HN := Lib.hid hkn
      have HLK := Lib.hid (show lookP L k = none by rw [hkn]; exact frN_none HA.out)
      have hkb : 1 ≤ k ∧ k ≤ 1000001 := by omega
      have HKB := Lib.hid hkb
      clear hk hkn k2 hfr
      go_upto_region 8 with (go_at_call 23; refine (HIX.out k wr HB.out.1).mono ?_; rintro e w2 ⟨i, rfl, hpos, hb2⟩; obtain rfl := hpos.none HLK.out; have B2 := Lib.hid (show Below w.heap.size w w2 ∧ TyAt w.heap.size #[.int .i64 c, .slice a1 L.length cap1] 29 w2 ∧ TyAt (w.heap.size + 1) #[.int .i64 0, .slice none 0 0] 29 w2 from ⟨bgo HB.out.1 hb2, HB.out.2.1.go hb2, HB.out.2.2.go hb2⟩); clear hpos hb2)
      clear r0 r1 lt1
      go_upto_region 9 with (at_builtin; refine wp_app rfl _ _ _ rfl w2.heap.size [] d _ _ rfl rfl (Own.empty _ _) (HU.out.below B2.out.1).rd.src (Nat.le_refl _) (by have := HD.out; simp; omega) ?_; intro v3 w3 o3 hb3; rw [List.nil_append] at o3; obtain ⟨a3, c3, rfl⟩ := o3.shape; have O3 := Lib.hid o3; have C3 := Lib.hid hb3; clear o3 hb3)
      refine wp_genW (fun w4 => TyAt w.heap.size #[.int .i64 c, .slice a1 L.length cap1] 29 w4 ∧ TyAt (w.heap.size + 1) #[.int .i64 0, .slice none 0 0] 29 w4 ∧ TyAt w3.heap.size #[.int .i64 k, .int .i64 1, .slice a3 d.length c3] 54 w4 ∧ Own 0 d (.slice a3 d.length c3) w4 ∧ Below w.heap.size w w4) ?_ ?_
      · have hb4 : Below w2.heap.size w2 (w3.alloc (.cells #[.int .i64 k, .int .i64 1, .slice a3 d.length c3] 54)) := bal C3.out _
        exact ⟨B2.out.2.1.go hb4, B2.out.2.2.go hb4, TyAt.new w3 _ _, (O3.out.alloc _).mono (Nat.zero_le _), bgo B2.out.1 hb4⟩
      rintro w4 ⟨t1, t2, t3, ow4, b4⟩
      have T1 := Lib.hid t1
      have T2 := Lib.hid t2
      have T3 := Lib.hid t3
      have OW := Lib.hid ow4
      have B4 := Lib.hid b4
      obtain ⟨m, hm⟩ : ∃ m : PM, m = ⟨k, 1, .slice a3 d.length c3⟩ := ⟨_, rfl⟩
      have HM := Lib.hid hm
      have HOK : Hid (PM.ok ⟨k, 1, .slice a3 d.length c3⟩) := Lib.hid ⟨⟨by show -9223372036854775808 ≤ k; omega, by show k ≤ 9223372036854775807; omega⟩, ⟨by show (-9223372036854775808 : Int) ≤ 1; decide, by show (1 : Int) ≤ 9223372036854775807; decide⟩, rfl⟩
      have HSS : Hid (∀ W, Below w4.heap.size w4 W → W.cell? ⟨w.heap.size, 1, none⟩ = some (.slice a1 L.length cap1) ∧ W.cell? ⟨w3.heap.size, 0, none⟩ = some (.int .i64 k) ∧ W.cell? ⟨w3.heap.size, 1, none⟩ = some (.int .i64 1) ∧ W.cell? ⟨w3.heap.size, 2, none⟩ = some (.slice a3 d.length c3)) := Lib.hid (fun W hb => ⟨(T1.out.go hb).row.cell (j := 1) rfl, (T3.out.go hb).row.cell (j := 0) rfl, (T3.out.go hb).row.cell (j := 1) rfl, (T3.out.go hb).row.cell (j := 2) rfl⟩)
      have HSRC : Hid (∀ W, Below w4.heap.size w4 W → FromPM M 27 (.slice a1 L.length cap1) W) := Lib.hid (fun W hb => by
        have h := (HV.out.below (bgo B4.out hb)).rd.src
        rw [HLn.out] at h
        exact h)
      have S0 := HSS.out w4 (Below.refl _ _)
      have S1 := HSS.out w4.drew (below_drew (Below.refl _ _))
      clear t1 t2 t3 ow4 b4 hm
      refine wp_meetX 9 32 6 (fun v wx => Hid (∃ a6 c6, v = .slice a6 (L.length + 1) c6 ∧ OwnPM w4.heap.size (M ++ [m]) v wx ∧ Below w4.heap.size w4 wx ∧ KpT 5 w4 wx)) ?_ ?_
      · intro G hG
        go_region_held3 (fun u => u.cell? ⟨w.heap.size, 1, none⟩ = some (.slice a1 L.length cap1) ∧ u.cell? ⟨w3.heap.size, 0, none⟩ = some (.int .i64 k) ∧ u.cell? ⟨w3.heap.size, 1, none⟩ = some (.int .i64 1) ∧ u.cell? ⟨w3.heap.size, 2, none⟩ = some (.slice a3 d.length c3)) (first | with_reducible assumption | go_keep) (first
          | (refine step_appPMk rfl _ _ _ rfl w4.heap.size M [⟨k, 1, .slice a3 d.length c3⟩] _ _ rfl rfl (by first | exact O5.out | exact O5.out.alloc _) (by first | exact (OwnPM.one HOK.out _).rd.src | exact (((OwnPM.one HOK.out w4.drew).below C5.out).rd).src) (by first | exact B5.out.size | exact Nat.le_trans B5.out.size (Go.Proofs.Ytmnahnmkffndlaa.b1 _).size) (by have := HLn.out; simp; omega) ?_; (intro v6 w6 o6 hb6 hk6; have O6 := Lib.hid o6; have B6 : Hid (Below w4.heap.size w4 w6) := Lib.hid (by first | exact B5.out.trans hb6 | exact (B5.out.trans ((Go.Proofs.Ytmnahnmkffndlaa.b1 _).mono B5.out.size)).trans hb6); have S6 := HSS.out w6 B6.out; have K6 : Hid (KpT 5 w4 w6) := Lib.hid (by first | exact (KpT.below B5.out).trans (hk6 _ ne_pg8) | exact ((KpT.below B5.out).trans (KpT.below (Go.Proofs.Ytmnahnmkffndlaa.b1 _))).trans (hk6 _ ne_pg8)); clear o6 hb6 hk6))
          | (refine step_appPMk rfl _ _ _ rfl _ [] M _ _ rfl rfl (OwnPM.empty _ _) (HSRC.out _ (by first | exact (Below.refl _ _).drew | exact (Go.Proofs.Ytmnahnmkffndlaa.b1 _).drew | exact (Below.refl _ _).drew.trans (Go.Proofs.Ytmnahnmkffndlaa.b1 _))) (Nat.le_refl _) (by have := HLn.out; simp; omega) ?_; (intro v5 w5 o5 hb5 hk5; rw [List.nil_append] at o5; have O5 : Hid (OwnPM w4.heap.size M v5 w5) := Lib.hid (o5.mono (by first | exact Nat.le_refl _ | exact (Go.Proofs.Ytmnahnmkffndlaa.b1 (a := w4) _).size)); have C5 := Lib.hid hb5; have B5 : Hid (Below w4.heap.size w4 w5) := Lib.hid (by first | exact (Below.refl _ _).drew.trans hb5 | exact ((Below.refl _ _).drew.trans (Go.Proofs.Ytmnahnmkffndlaa.b1 _)).trans (hb5.mono (Go.Proofs.Ytmnahnmkffndlaa.b1 (a := w4) _).size) | exact (Go.Proofs.Ytmnahnmkffndlaa.b1 _).drew.trans (hb5.mono (Go.Proofs.Ytmnahnmkffndlaa.b1 (a := w4) _).size)); have S5 := HSS.out w5 B5.out; clear o5 hb5 hk5)))
        all_goals
          obtain ⟨a6, c6, rfl⟩ := O6.out.rd.shape
          have hl6 : (M ++ [(⟨k, 1, .slice a3 d.length c3⟩ : PM)]).length = L.length + 1 := by rw [List.length_append, HLn.out]; rfl
          rw [hl6] at O6 ⊢
          exact hG _ _ _ ⟨[_, _, _, _, _, _], rfl, rfl⟩ (Lib.hid ⟨_, _, rfl, by rw [HM.out]; exact O6.out, B6.out, K6.out⟩)
      intro aX wX vX hoff HX
      obtain ⟨us, hus, rfl⟩ := hoff
      match us, hus with
      | [u0, u1, u2, u3, u4, u5], _ =>
        simp only [List.set_cons_succ, List.set_cons_zero, List.take_succ_cons, List.take_zero, List.drop_succ_cons, List.drop_zero, List.cons_append, List.nil_append]
        obtain ⟨a6, c6, rfl, o6, b6, k6⟩ := HX.out
        obtain ⟨g, rfl, hg, -, -, hq1, hq2⟩ := o6.block (by simp)
        have HI : Hid (OwnPM w4.heap.size (M.take L.length ++ m :: M.drop L.length) (.slice (some ⟨g, 0, none⟩) (L.length + 1) c6) wX) := Lib.hid (by
          rw [← HLn.out, List.take_length, List.drop_length, HLn.out]
          exact o6)
        have HW : Hid (TyAt w.heap.size #[.int .i64 c, .slice a1 L.length cap1] 29 wX ∧ TyAt (w.heap.size + 1) #[.int .i64 0, .slice none 0 0] 29 wX ∧ PmAt 0 M L wX ∧ Own 0 d (.slice a3 d.length c3) wX ∧ Below w.heap.size w wX) := Lib.hid ⟨T1.out.go b6, T2.out.go b6, (HP.out.kpb (KpB.below B4.out)).kpb k6, OW.out.kpb k6, bgo B4.out b6⟩
        clear HX o6 b6 k6 S0 S1 HSS HSRC HIX HB B2 O3 C3 T1 T2 T3 OW
        go_wp2
        go_loopw [10] (fun v wr => ∃ q : Nat, q ≤ L.length ∧ v = .int .i64 (q : Int) ∧ Hid (OwnPM w4.heap.size (M.take q ++ m :: M.drop q) (.slice (some ⟨g, 0, none⟩) (L.length + 1) c6) wr) ∧ Hid (∀ x ∈ L.drop q, k < x.n) ∧ Hid (TyAt w.heap.size #[.int .i64 c, .slice a1 L.length cap1] 29 wr ∧ TyAt (w.heap.size + 1) #[.int .i64 0, .slice none 0 0] 29 wr ∧ PmAt 0 M L wr ∧ Own 0 d (.slice a3 d.length c3) wr ∧ Below w.heap.size w wr)) (fun v _ => (intOf v).toNat)
        case atStart => exact ⟨L.length, Nat.le_refl _, by go_num, HI, Lib.hid (by simp), HW⟩
        case round =>
          clear HI HW
          obtain ⟨q, hq, rfl, HI, HG, HW⟩ := hrel
          cases q with
          | zero =>
            have HQL := Lib.hid hq
            have HNL : Hid (0 < 0 → ¬ k < (L.getD (0 - 1) Pg.z).n) := Lib.hid (fun h => by omega)
            go_wp2
            go_quiet (fail)
            go_upto_region 14 with (fail)
            refine wp_genW (fun w' => OwnPM 0 (M.take 0 ++ m :: M.drop 0) (.slice (some ⟨g, 0, none⟩) (L.length + 1) c6) w' ∧ TyAt w.heap.size #[.int .i64 c, .slice a1 L.length cap1] 29 w' ∧ TyAt (w.heap.size + 1) #[.int .i64 0, .slice none 0 0] 29 w' ∧ PmAt 0 M L w' ∧ Own 0 d (.slice a3 d.length c3) w' ∧ Below w.heap.size w w') ⟨HI.out.mono (Nat.zero_le _), HW.out.1, HW.out.2.1, HW.out.2.2.1.kpb (KpB.refl _), HW.out.2.2.2.1, below_drewN HW.out.2.2.2.2 _⟩ ?_
            rintro w' ⟨f1, f2, f3, f4, f5, f6⟩
            have m0 := f2.row.cell (j := 0) rfl
            have n0 := f3.row.cell (j := 0) rfl
            have n1 := f3.row.cell (j := 1) rfl
            have o0 := f3.row.open_ 0
            have o1 := f3.row.open_ 1
            have lt5 := f2.lt
            have lt6 := f3.lt
            have F1 := Lib.hid f1
            have F3 := Lib.hid f3
            have F4 := Lib.hid f4
            have F5 := Lib.hid f5
            have F6 := Lib.hid f6
            clear f1 f2 f3 f4 f5 f6
            go_wp2
            have hfin := ra_fin F3.out (.int .i64 c) (.slice (some ⟨g, 0, none⟩) (L.length + 1) c6)
            refine ret_row3 rfl rfl rfl rfl rfl hfin.1 Try.underlying29 rfl inf_ra ⟨_, _, by rw [HN.out]; rfl, F1.out.kpt (hfin.2 _ ne_pra), ?_, bset (bset F6.out _ _ _ (by omega)) _ _ _ (by omega)⟩
            rw [← HN.out, insP_split ⟨k, 1, d⟩ 0 HA.out HQL.out HG.out (fun h0 => by have := HNL.out h0; show ¬ k < _; omega), HM.out]
            have hQ : PmAt 0 ((⟨k, 1, .slice a3 d.length c3⟩ : PM) :: M.drop 0) ((⟨k, 1, d⟩ : Pg) :: L.drop 0) w' := ⟨⟨rfl, rfl, F5.out⟩, F4.out.drop 0⟩
            exact ((F4.out.take 0).app hQ).kpb (hfin.2 _ ne_8ra)
          | succ j =>
            have hjL : j < L.length := by omega
            have HJL := Lib.hid hjL
            have HQL := Lib.hid hq
            have hjM : j < M.length := by rw [HLn.out]; exact hjL
            have HJM := Lib.hid hjM
            have hNm : L.length + 1 = M.length + 1 := by rw [HLn.out]
            have hq1 : (j : Int) + 1 < (L.length : Int) + 1 := by omega
            have hq2 : (j : Int) < (L.length : Int) + 1 := by omega
            have hq3 : (0 : Int) ≤ (j : Int) := by omega
            have hq4 : (0 : Int) ≤ (j : Int) + 1 := by omega
            have hq5 : IntKind.i64.wrap ((j : Int) + 1 - 1) = (j : Int) := by rw [IntKind.wrap_i64]; omega
            have hq7 : wrap64 ((j : Int) + 1 - 1) = (j : Int) := by unfold wrap64; omega
            have hq8 : IntKind.i64.wrap (j : Int) = (j : Int) := by rw [IntKind.wrap_i64]; omega
            have hq6 : (0 : Int) < (j : Int) + 1 := by omega
            have hown := HI.out
            have eN : L.length + 1 = (M.take (j + 1) ++ m :: M.drop (j + 1)).length := by rw [mid_len m (by omega), HLn.out]
            rw [eN] at hown
            obtain ⟨x0, x1, x2⟩ := hown.cellsAt (j := j + 1) (by rw [← eN]; omega)
            obtain ⟨y0, y1, y2⟩ := hown.cellsAt (j := j) (by rw [← eN]; omega)
            rw [mid_at m (by omega)] at x0 x1 x2
            rw [mid_low m hjM] at y0 y1 y2
            have hmn : m.n = k := by rw [HM.out]
            have hYn := (HW.out.2.2.1.at_ hjL).1
            rw [hmn] at x0
            obtain ⟨y, hy⟩ : ∃ y, (L.getD j Pg.z).n = y := ⟨_, rfl⟩
            rw [hYn, hy] at y0
            have HY := Lib.hid hy
            clear hown eN hYn hNm hjM hjL hy
            by_cases hB : k < y
            · have HB := Lib.hid hB
              go_wp2
              go_quiet (fail)
              go_upto_region 13 with (fail)
              refine wp_genW (fun w' => OwnPM w4.heap.size (M.take (j + 1) ++ m :: M.drop (j + 1)) (.slice (some ⟨g, 0, none⟩) (L.length + 1) c6) w' ∧ TyAt w.heap.size #[.int .i64 c, .slice a1 L.length cap1] 29 w' ∧ TyAt (w.heap.size + 1) #[.int .i64 0, .slice none 0 0] 29 w' ∧ PmAt 0 M L w' ∧ Own 0 d (.slice a3 d.length c3) w' ∧ Below w.heap.size w w') ⟨HI.out, HW.out.1, HW.out.2.1, HW.out.2.2.1.kpb (KpB.refl _), HW.out.2.2.2.1, below_drewN HW.out.2.2.2.2 _⟩ ?_
              rintro w' ⟨f1, f2, f3, f4, f5, f6⟩
              clear x0 x1 x2 y0 y1 y2
              have hmo : m.ok := by rw [HM.out]; exact HOK.out
              have hYo : (M.getD j PM.z).ok := by
                have := f1.1.at_ j
                rwa [mid_low m HJM.out] at this
              have hst := swp_pmo HJM.out (by rw [HLn.out]) f1 hmo hYo
              have hkp := fun T (hT : T ≠ 54) => six_kpt f1 hT ((j + 1) * 3) ((j + 1) * 3 + 1) ((j + 1) * 3 + 2) (j * 3) (j * 3 + 1) (j * 3 + 2) (.int .i64 (M.getD j PM.z).n) (.int .i64 (M.getD j PM.z).r) (M.getD j PM.z).s (.int .i64 m.n) (.int .i64 m.r) m.s
              have hgw : w.heap.size ≤ g := Nat.le_trans B4.out.size hg
              have hres : TyAt w.heap.size #[.int .i64 c, .slice a1 L.length cap1] 29 _ ∧ TyAt (w.heap.size + 1) #[.int .i64 0, .slice none 0 0] 29 _ ∧ PmAt 0 M L _ ∧ Own 0 d (.slice a3 d.length c3) _ ∧ Below w.heap.size w _ := ⟨(hkp _ ne_pra.symm).ty f2, (hkp _ ne_pra.symm).ty f3, f4.kpb (hkp _ ne_pg8), f5.kpb (hkp _ ne_pg8), six_bel f6 hgw ((j + 1) * 3) ((j + 1) * 3 + 1) ((j + 1) * 3 + 2) (j * 3) (j * 3 + 1) (j * 3 + 2) (.int .i64 (M.getD j PM.z).n) (.int .i64 (M.getD j PM.z).r) (M.getD j PM.z).s (.int .i64 m.n) (.int .i64 m.r) m.s⟩
              have HST := Lib.hid hst
              have HRS := Lib.hid hres
              have HDR : Hid (∀ x ∈ L.drop j, k < x.n) := Lib.hid (fun x hx => by
                rw [List.drop_eq_getElem_cons HJL.out] at hx
                rcases List.mem_cons.1 hx with rfl | hx
                · have h1 := HY.out
                  have h2 := HB.out
                  rw [show L.getD j Pg.z = L[j]'HJL.out by simp [List.getD, HJL.out]] at h1
                  omega
                · exact HG.out x hx)
              obtain ⟨sa, sc, hs3⟩ := (f4.at_ HJL.out).2.2.shape
              generalize (L.getD j Pg.z).d.length = sn at hs3
              have hown := f1
              have eN : L.length + 1 = (M.take (j + 1) ++ m :: M.drop (j + 1)).length := by rw [mid_len m (by have := HJM.out; omega), HLn.out]
              rw [eN] at hown
              obtain ⟨x0, x1, x2⟩ := hown.cellsAt (j := j + 1) (by rw [← eN]; have := HJL.out; omega)
              obtain ⟨y0, y1, y2⟩ := hown.cellsAt (j := j) (by rw [← eN]; have := HJL.out; omega)
              rw [mid_at m (by have := HJM.out; omega)] at x0 x1 x2
              rw [mid_low m HJM.out] at y0 y1 y2
              have g0 := hown.frozen ((j + 1) * 3)
              have g1 := hown.frozen ((j + 1) * 3 + 1)
              have g2 := hown.frozen ((j + 1) * 3 + 2)
              have g3 := hown.frozen (j * 3)
              have g4 := hown.frozen (j * 3 + 1)
              have g5 := hown.frozen (j * 3 + 2)
              clear f1 f2 f3 f4 f5 f6 hst hkp hres hown eN hYo hmo
              generalize M.getD j PM.z = Y at *
              obtain ⟨yn, yr, ys⟩ := Y
              obtain rfl : ys = _ := hs3
              have hm := HM.out
              subst hm
              dsimp only at *
              go_big_region
              go_wp2
              go_roundw
              case rel => exact ⟨j, by omega, by go_num, Lib.hid HST.out.drw, HDR, Lib.hid ⟨HRS.out.1.drw, HRS.out.2.1.drw, HRS.out.2.2.1.drw, HRS.out.2.2.2.1.drew, below_drew HRS.out.2.2.2.2⟩⟩
              case measure => simp [intOf]
            · have HNL : Hid (0 < j + 1 → ¬ k < (L.getD (j + 1 - 1) Pg.z).n) := Lib.hid (fun _ => by rw [show j + 1 - 1 = j from rfl, HY.out]; exact hB)
              go_wp2
              go_quiet (fail)
              go_upto_region 14 with (fail)
              refine wp_genW (fun w' => OwnPM 0 (M.take (j + 1) ++ m :: M.drop (j + 1)) (.slice (some ⟨g, 0, none⟩) (L.length + 1) c6) w' ∧ TyAt w.heap.size #[.int .i64 c, .slice a1 L.length cap1] 29 w' ∧ TyAt (w.heap.size + 1) #[.int .i64 0, .slice none 0 0] 29 w' ∧ PmAt 0 M L w' ∧ Own 0 d (.slice a3 d.length c3) w' ∧ Below w.heap.size w w') ⟨HI.out.mono (Nat.zero_le _), HW.out.1, HW.out.2.1, HW.out.2.2.1.kpb (KpB.refl _), HW.out.2.2.2.1, below_drewN HW.out.2.2.2.2 _⟩ ?_
              rintro w' ⟨f1, f2, f3, f4, f5, f6⟩
              have m0 := f2.row.cell (j := 0) rfl
              have n0 := f3.row.cell (j := 0) rfl
              have n1 := f3.row.cell (j := 1) rfl
              have o0 := f3.row.open_ 0
              have o1 := f3.row.open_ 1
              have lt5 := f2.lt
              have lt6 := f3.lt
              have F1 := Lib.hid f1
              have F3 := Lib.hid f3
              have F4 := Lib.hid f4
              have F5 := Lib.hid f5
              have F6 := Lib.hid f6
              clear f1 f2 f3 f4 f5 f6 x0 x1 x2 y0 y1 y2
              go_wp2
              have hfin := ra_fin F3.out (.int .i64 c) (.slice (some ⟨g, 0, none⟩) (L.length + 1) c6)
              refine ret_row3 rfl rfl rfl rfl rfl hfin.1 Try.underlying29 rfl inf_ra ⟨_, _, by rw [HN.out]; rfl, F1.out.kpt (hfin.2 _ ne_pra), ?_, bset (bset F6.out _ _ _ (by omega)) _ _ _ (by omega)⟩
              rw [← HN.out, insP_split ⟨k, 1, d⟩ (j + 1) HA.out HQL.out HG.out (fun h0 => by have := HNL.out h0; show ¬ k < _; omega), HM.out]
              have hQ : PmAt 0 ((⟨k, 1, .slice a3 d.length c3⟩ : PM) :: M.drop (j + 1)) ((⟨k, 1, d⟩ : Pg) :: L.drop (j + 1)) w' := ⟨⟨rfl, rfl, F5.out⟩, F4.out.drop (j + 1)⟩
              exact ((F4.out.take (j + 1)).app hQ).kpb (hfin.2 _ ne_8ra)
end Go.Proofs.Ytmnahnmkffndlaa
