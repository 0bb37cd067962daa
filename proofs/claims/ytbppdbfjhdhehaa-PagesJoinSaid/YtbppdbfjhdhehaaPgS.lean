/- The contracts of pages.Split and of the reference's. -/
import Derived.Test.YtbppdbfjhdhehaaPgC
namespace Go.Proofs.Ytbppdbfjhdhehaa
open Go.RowKit
set_option linter.unusedVariables false
set_option linter.unusedSimpArgs false
/-- N slices of bytes of the call's own, the first k of them the pages. -/
def PgK (B : Nat) (L : List Int) (s N k : Nat) (v : Value) (w : World) : Prop := ∃ us, us.length = N ∧ OwnP B us v w ∧ ∀ j, j < k → Own B (pgN L s j) (us.getD j nilP) w
section
variable {B : Nat} {L : List Int} {s N k : Nat} {v : Value} {w w' : World}
theorem own_keep {M : List Int} {u : Value} (h : Own B M u w) (hb : ∀ g, g < w.heap.size → u.ownBlock = some g → w'.heap[g]? = w.heap[g]?) : Own B M u w' := ⟨h.1, row_keep h.2 hb⟩
theorem PgK.below (h : PgK B L s N k v w) (hb : Below w.heap.size w w') : PgK B L s N k v w' := by
  obtain ⟨us, h1, h2, h3⟩ := h
  exact ⟨us, h1, h2.below hb, fun j hj => (h3 j hj).below hb⟩
/-- Own bytes do not lie in the block of an own row of slices. -/
theorem own_apart {B' : Nat} {M : List Int} {us : List Value} {u v : Value} (h : Own B M u w) (ho : OwnP B' us v w) {g : Nat} (hg : u.ownBlock = some g) : v.ownBlock ≠ some g := row_apart h.2 ho.2 (by decide) hg
theorem own_lone {B' : Nat} {M : List Int} {us : List Value} {u v : Value} (h : Own B M u w) (ho : OwnP B' us v w) (hl : Lone v w w') : Own B M u w' := own_keep h (fun g hg e => hl.2 g hg (own_apart h ho e))
theorem own_one {M : List Int} {u : Value} (h : Own B M u w) : u.oneCell' = true := by
  obtain ⟨a, c, rfl⟩ := h.shape
  rfl
theorem PgK.cell {g n cap : Nat} (h : PgK B L s N k (.slice (some ⟨g, 0, none⟩) n cap) w) (hk : k < N) : B ≤ g ∧ g < w.heap.size ∧ ∃ old, w.cell? ⟨g, k, none⟩ = some old ∧ w.frozen? ⟨g, k, none⟩ = false := by
  obtain ⟨us, h1, h2, h3⟩ := h
  obtain ⟨g', he, -, hB, hlt, hc⟩ := h2.cells (by omega)
  simp only [Option.some.injEq, Addr.mk.injEq, and_true] at he
  subst he
  obtain ⟨c1, c2⟩ := hc k (by omega)
  exact ⟨hB, hlt, _, c1, c2⟩
theorem PgK.put {g n cap : Nat} (h : PgK B L s N k (.slice (some ⟨g, 0, none⟩) n cap) w) (hk : k < N) {u : Value} {M : List Int} (hM : pgN L s k = M) (hu : Own B M u w) : PgK B L s N (k + 1) (.slice (some ⟨g, 0, none⟩) n cap) (w.setCell ⟨g, k, none⟩ u) := by
  subst hM
  obtain ⟨us, h1, h2, h3⟩ := h
  have hg : (Value.slice (some ⟨g, 0, none⟩) n cap).ownBlock = some g := rfl
  have away : ∀ {M : List Int} {x : Value}, Own B M x w → Own B M x (w.setCell ⟨g, k, none⟩ u) := fun hx => own_keep hx (fun b hb e => Below.heap_setCell _ ⟨g, k, none⟩ _ _ (fun e' => by subst e'; exact own_apart hx h2 e hg))
  refine ⟨us.set k u, by rw [List.length_set, h1], h2.put (by omega) k (own_one hu), fun j hj => ?_⟩
  by_cases hjk : k = j
  · subst hjk
    rw [getD_set_eq (by omega)]
    exact away hu
  · rw [getD_set_ne hjk]
    exact away (h3 j (by omega))
theorem PgK.snoc {us : List Value} (h1 : us.length = k) (h2 : OwnP B us v w) (h3 : ∀ j, j < k → Own B (pgN L s j) (us.getD j nilP) w) {u v' : Value} {M : List Int} (hM : pgN L s k = M) (hu : Own B M u w) (hv : OwnP B (us ++ [u]) v' w') (hl : Lone v w w') : PgK B L s (k + 1) (k + 1) v' w' := by
  subst hM
  refine ⟨us ++ [u], by simp [h1], hv, fun j hj => ?_⟩
  rw [getD_snoc]
  by_cases hjk : j < us.length
  · rw [if_pos hjk]
    exact own_lone (h3 j (by omega)) h2 hl
  · rw [if_neg hjk, if_pos (by omega), show j = k by omega]
    exact own_lone hu h2 hl
theorem PgK.rd (h : PgK B L s (cntN L.length s) (cntN L.length s) v w) : RdPs (pgs L s) v w := by
  obtain ⟨us, h1, h2, h3⟩ := h
  refine ⟨us, h2.rd, by rw [h1, pgs_len], fun j hj => ?_⟩
  rw [pgs_len] at hj
  rw [pgs_at hj]
  exact (h3 j hj).rd
theorem PgK.made (h : OwnP B (List.replicate N nilP) v w) : PgK B L s N 0 v w := ⟨_, by simp, h, fun j hj => by omega⟩
theorem PgK.none (B : Nat) (L : List Int) (s : Nat) (w : World) : PgK B L s 0 0 (.slice none 0 0) w := ⟨[], rfl, OwnP.empty _ _, fun j hj => by omega⟩
theorem rdPs_nil (w : World) : RdPs [] (.slice none 0 0) w := ⟨[], (OwnP.empty 0 w).rd, rfl, fun j hj => by cases hj⟩
end
/-- What Split answers. -/
def splL (L : List Int) (s : Int) : List (List Int) := if s < 1 ∨ 1024 < s then [] else pgs L s.toNat
def splE (s : Int) : Int := if s < 1 ∨ 1024 < s then 5 else 0
theorem spl_bad {L : List Int} {s : Int} (h : s < 1 ∨ 1024 < s) : splL L s = [] ∧ splE s = 5 := by unfold splL splE; rw [if_pos h, if_pos h]; exact ⟨rfl, rfl⟩
theorem spl_ok {L : List Int} {s : Nat} (h0 : 1 ≤ s) (h1 : s ≤ 1024) : splL L s = pgs L s ∧ splE s = 0 := by unfold splL splE; rw [if_neg (by omega), if_neg (by omega), Int.toNat_natCast]; exact ⟨rfl, rfl⟩
set_option maxRecDepth 100000 in
set_option maxHeartbeats 1000000 in
theorem psplit_ok (L : List Int) (s : Nat) (v : Value) (w : World) (h : Rd L v w) (hL : L.length ≤ 1000000000000) (s0 : 1 ≤ s) (s1 : s ≤ 1024) :
    Calls Try.prog 8 #[v, .int .i64 s] w fun e w' => ∃ v', e = .returned (.tuple #[v', .int .i64 0]) ∧ RdPs (pgs L s) v' w' ∧ Below w.heap.size w w' := by
  have H := Lib.hid h
  obtain ⟨hy, a, cap, rfl, h4, h5, h6⟩ := h
  have hcount := fun w => pcount_any L.length s w (by omega) (by omega) (by omega) (by omega)
  rw [(cnt_eq L.length s s0 s1).1, (cnt_eq L.length s s0 s1).2] at hcount
  have hN : cntN L.length s ≤ 1000000000000 := Nat.le_trans (cnt_le s0) hL
  have HT := Lib.hid (fun i (hi : i < cntN L.length s) => (cnt_lt s0).1 hi)
  have HE := Lib.hid (fun v w => (PgK.rd : PgK w.heap.size L s (cntN L.length s) (cntN L.length s) v w → _))
  have HR := Lib.hid (fun B v w => (PgK.rd : PgK B L s (cntN L.length s) (cntN L.length s) v w → _))
  generalize cntN L.length s = N at *
  clear h6 hy HE
  unfold maxLen at h5
  go_enter Try.func8, Try.ntmps8
  go_wp2_with (first | (go_at_call 10; refine (hcount _).mono ?_; rintro e w' ⟨rfl, rfl⟩) | (at_make; (refine wp_makeP rfl _ _ rfl N rfl rfl (by omega) ?_; intro w1 o1 b1 hz; have O1 := Lib.hid (PgK.made (L := L) (s := s) o1); have B1 := Lib.hid b1; clear o1 b1 hz)))
  go_loopw [9, 24] (fun _ i wr => ∃ k : Nat, k ≤ N ∧ i = .int .i64 (k : Int) ∧ Hid (PgK w.heap.size L s N k (.slice (some ⟨w.heap.size, 0, none⟩) N N) wr) ∧ Hid (Below w.heap.size w wr)) (fun _ i _ => N - (intOf i).toNat)
  case atStart => exact ⟨0, by omega, rfl, O1, B1⟩
  case round =>
    clear O1 B1
    obtain ⟨k, hk, rfl, HO, HB⟩ := hrel
    by_cases hlt : k < N
    · have ht := HT.out k hlt
      have hadr := fun w => addr_any k s L.length (k * s) (pgT L.length s k) w rfl rfl (by omega) s1 hL
      have hT1 : k * s < pgT L.length s k := by unfold pgT; omega
      have hT2 : pgT L.length s k ≤ L.length := by unfold pgT; omega
      have hpage := page_any L (k * s) (pgT L.length s k) _ wr (H.out.below HB.out) hT1 hT2 hL
      obtain ⟨M, hM⟩ : ∃ M, pgN L s k = M := ⟨_, rfl⟩
      rw [show (L.take (pgT L.length s k)).drop (k * s) = M from hM] at hpage
      have HP := Lib.hid hpage
      have HM := Lib.hid hM
      have hk3 : (k : Int) < (N : Int) := by omega
      clear ht hT1 hT2 hpage hM
      generalize flN (k * s) = p at *
      generalize flN (pgT L.length s k) = q at *
      go_wp2_with (first | (go_at_call 19; refine (hadr _).mono ?_; rintro e w' ⟨rfl, rfl⟩) | (go_at_call 18; refine (HP.out).mono ?_; rintro e w2 ⟨u, rfl, ho, hb⟩; have HO2 := Lib.hid (HO.out.below hb); have HU := Lib.hid (ho.mono HB.out.size : Own w.heap.size M u w2); have HB2 := Lib.hid (bgo HB.out hb); clear ho hb; have hcl := HO2.out.cell hlt; obtain ⟨-, hgl, old, hc, hf⟩ := hcl; obtain ⟨ua, uc, hus⟩ := HU.out.shape; subst hus))
      have HO3 := Lib.hid (HO2.out.put hlt HM.out HU.out)
      go_roundw
      case rel => exact ⟨k + 1, by omega, by go_num, HO3, Lib.hid (bset HB2.out _ _ _ (Nat.le_refl _))⟩
      case measure => simp [intOf]; omega
    · obtain rfl : k = N := by omega
      go_wp2
      go_ret2
      exact ⟨_, rfl, HR.out _ _ _ HO.out, HB.out⟩
theorem psplit_bad (L : List Int) (s : Int) (v : Value) (w : World) (h : Rd L v w) (hL : L.length ≤ 1000000000000) (hs : s < 1 ∨ 1024 < s) (s0 : -9223372036854775808 ≤ s) (s1 : s ≤ 9223372036854775807) :
    Calls Try.prog 8 #[v, .int .i64 s] w fun e w' => e = .returned (.tuple #[.slice none 0 0, .int .i64 5]) ∧ w = w' := by
  obtain ⟨hy, a, cap, rfl, h4, h5, h6⟩ := h
  have hcount := fun w => pcount_any L.length s w (by omega) (by omega) s0 s1
  rw [(cnt_bad hs).1, (cnt_bad hs).2] at hcount
  clear h6 hy hs
  unfold maxLen at h5
  go_enter Try.func8, Try.ntmps8
  go_wp2_with (go_at_call 10; refine (hcount _).mono ?_; rintro e w' ⟨rfl, rfl⟩)
  go_ret2
  exact ⟨rfl, rfl⟩
theorem psplit_any (L : List Int) (s : Int) (v : Value) (w : World) (h : Rd L v w) (hL : L.length ≤ 1000000000000) (s0 : -9223372036854775808 ≤ s) (s1 : s ≤ 9223372036854775807) :
    Calls Try.prog 8 #[v, .int .i64 s] w fun e w' => ∃ v', e = .returned (.tuple #[v', .int .i64 (splE s)]) ∧ RdPs (splL L s) v' w' ∧ Below w.heap.size w w' := by
  by_cases hs : s < 1 ∨ 1024 < s
  · rw [(spl_bad (L := L) hs).1, (spl_bad (L := L) hs).2]
    refine (psplit_bad L s v w h hL hs s0 s1).mono ?_
    rintro e w' ⟨rfl, rfl⟩
    exact ⟨_, rfl, rdPs_nil _, Below.refl _ _⟩
  · obtain ⟨n, rfl⟩ := Int.eq_ofNat_of_zero_le (show 0 ≤ s by omega)
    have h1 : 1 ≤ n ∧ n ≤ 1024 := by omega
    rw [(spl_ok (L := L) h1.1 h1.2).1, (spl_ok (L := L) h1.1 h1.2).2]
    exact psplit_ok L n v w h hL h1.1 h1.2
set_option maxRecDepth 100000 in
set_option maxHeartbeats 1000000 in
theorem rsplit_ok (L : List Int) (s : Nat) (v : Value) (w : World) (h : Rd L v w) (hL : L.length ≤ 1000000000000) (s0 : 1 ≤ s) (s1 : s ≤ 1024) :
    Calls Try.prog 9 #[v, .int .i64 s] w fun e w' => ∃ v', e = .returned (.tuple #[v', .int .i64 0]) ∧ RdPs (pgs L s) v' w' ∧ Below w.heap.size w w' := by
  have H := Lib.hid h
  obtain ⟨hy, a, cap, rfl, h4, h5, h6⟩ := h
  have HC := Lib.hid h6
  have hN : cntN L.length s ≤ 1000000000000 := Nat.le_trans (cnt_le s0) hL
  have HT := Lib.hid (fun i => (cnt_lt (n := L.length) (i := i) s0))
  have HR := Lib.hid (fun B v w => (PgK.rd : PgK B L s (cntN L.length s) (cntN L.length s) v w → _))
  have HN := Lib.hid (PgK.none w.heap.size L s w)
  generalize cntN L.length s = N at *
  clear h6 hy
  unfold maxLen at h5
  go_enter Try.func9, Try.ntmps9
  go_wp2
  go_loopw [6, 7] (fun vl i wr => ∃ k : Nat, k ≤ N ∧ i = .int .i64 ((k * s : Nat) : Int) ∧ Hid (PgK w.heap.size L s k k vl wr) ∧ Hid (Below w.heap.size w wr)) (fun _ i _ => L.length - (intOf i).toNat)
  case atStart => exact ⟨0, by omega, by simp, HN, Lib.hid (Below.refl _ _)⟩
  case round =>
    clear HN
    obtain ⟨k, hk, rfl, HO, HB⟩ := hrel
    have hiff := HT.out k
    obtain ⟨F, hF⟩ : ∃ F, k * s = F := ⟨_, rfl⟩
    by_cases hlt : F < L.length
    · have hkN : k < N := hiff.2 (by omega)
      obtain ⟨us, hu1, hu2, hu3⟩ := HO.out
      have HU1 := Lib.hid hu1
      have HU2 := Lib.hid hu2
      have HU3 := Lib.hid hu3
      have HLN := Lib.hid (show us.length + 1 ≤ 1099511627776 by omega)
      obtain ⟨b, off, rfl, hb, hcell⟩ := HC.out (by omega)
      obtain ⟨M, hM⟩ : ∃ M, pgN L s k = M := ⟨_, rfl⟩
      have hPG : M = (L.take (pgT L.length s k)).drop F := by rw [← hM]; unfold pgN; rw [hF]
      have hT : min ((F : Int) + (s : Int)) (L.length : Int) = ((pgT L.length s k : Nat) : Int) := by unfold pgT; rw [hF]; omega
      have hT1 : F < pgT L.length s k := by unfold pgT; omega
      have hT2 : pgT L.length s k ≤ L.length := by unfold pgT; omega
      have HSK := Lib.hid (show (k + 1) * s = F + s by rw [Nat.succ_mul, hF])
      have HPL := Lib.hid (show M.length ≤ 1000000000000 by rw [hPG, List.length_drop, List.length_take]; omega)
      rw [hF]
      have HM := Lib.hid hM
      clear hcell hu1 hu2 hu3 hiff hF HO hM
      generalize pgT L.length s k = T at *
      have HRD := Lib.hid ((H.out.below HB.out).cut F T (by omega) hT2 (some ⟨b, off + F, none⟩) (fun _ => rfl) (m := T - F) (c := cap - F) rfl rfl)
      rw [← hPG] at HRD
      clear hPG
      have h7 : (F : Int) < (cap : Int) := by omega
      go_wp2_with (first
        | (at_builtin; refine wp_app rfl _ (.tmp 30) _ rfl wr.heap.size [] M _ _ rfl rfl (Own.empty _ _) HRD.out.src (Nat.le_refl _) (by have := HPL.out; simp; omega) ?_; intro u w2 ho hb2; have HU := Lib.hid (ho.mono HB.out.size : Own w.heap.size M u w2); have HB2 := Lib.hid (bgo HB.out hb2); have HP2 := Lib.hid (HU2.out.below hb2); have HP3 := Lib.hid (fun j hj => (HU3.out j hj).below hb2); clear ho hb2; obtain ⟨ua, uc, hus⟩ := HU.out.shape; subst hus)
        | (at_builtin; refine wp_appP rfl _ (.tmp 32) _ rfl w.heap.size us [.slice ua M.length uc] _ _ rfl rfl (HP2.out.alloc _) (OwnP.one rfl _).rd.src (by have := HB2.out.size; simp; omega) HLN.out ?_; intro v3 w3 ho hb3 hl3; have HB3 := Lib.hid ((bal HB2.out _).trans hb3); have HK3 := Lib.hid (PgK.snoc HU1.out (HP2.out.alloc _) (fun j hj => (HP3.out j hj).alloc _) HM.out (HU.out.alloc _) ho hl3); clear ho hb3 hl3))
      go_roundw
      case rel => exact ⟨k + 1, by omega, by rw [HSK.out]; go_num, HK3, HB3⟩
      case measure => simp [intOf]; omega
    · obtain rfl : k = N := by
        have := mt hiff.2 (by omega)
        omega
      rw [hF]
      go_wp2
      go_ret2
      exact ⟨_, rfl, HR.out _ _ _ HO.out, HB.out⟩
theorem rsplit_bad (s : Int) (v : Value) (w : World) (hs : s < 1 ∨ 1024 < s) :
    Calls Try.prog 9 #[v, .int .i64 s] w fun e w' => e = .returned (.tuple #[.slice none 0 0, .int .i64 5]) ∧ w = w' := by
  by_cases h1 : s < 1
  · clear hs
    go_enter Try.func9, Try.ntmps9
    go_wp2
    go_ret2
    exact ⟨rfl, rfl⟩
  · have h2 : 1024 < s := by omega
    clear hs
    go_enter Try.func9, Try.ntmps9
    go_wp2
    go_ret2
    exact ⟨rfl, rfl⟩
theorem rsplit_any (L : List Int) (s : Int) (v : Value) (w : World) (h : Rd L v w) (hL : L.length ≤ 1000000000000) :
    Calls Try.prog 9 #[v, .int .i64 s] w fun e w' => ∃ v', e = .returned (.tuple #[v', .int .i64 (splE s)]) ∧ RdPs (splL L s) v' w' ∧ Below w.heap.size w w' := by
  by_cases hs : s < 1 ∨ 1024 < s
  · rw [(spl_bad (L := L) hs).1, (spl_bad (L := L) hs).2]
    refine (rsplit_bad s v w hs).mono ?_
    rintro e w' ⟨rfl, rfl⟩
    exact ⟨_, rfl, rdPs_nil _, Below.refl _ _⟩
  · obtain ⟨n, rfl⟩ := Int.eq_ofNat_of_zero_le (show 0 ≤ s by omega)
    have h1 : 1 ≤ n ∧ n ≤ 1024 := by omega
    rw [(spl_ok (L := L) h1.1 h1.2).1, (spl_ok (L := L) h1.1 h1.2).2]
    exact rsplit_ok L n v w h hL h1.1 h1.2
end Go.Proofs.Ytbppdbfjhdhehaa
