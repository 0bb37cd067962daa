/- Law13Q: in one text. -/
import Derived.Test.YtjibbnknliamkaaGreatDoorPg00
import Derived.Test.YtjibbnknliamkaaGreatDoorPg01
import Derived.Test.YtjibbnknliamkaaGreatDoorPg02
import Derived.Test.YtjibbnknliamkaaGreatDoorPg03
import Derived.Test.YtjibbnknliamkaaGreatDoorPg04
import Derived.Test.YtjibbnknliamkaaGreatDoorPg05
import Derived.Test.YtjibbnknliamkaaGreatDoorPg06
import Derived.Test.YtjibbnknliamkaaGreatDoorPg07
import Derived.Test.YtjibbnknliamkaaGreatDoorPg08
import Derived.Test.YtjibbnknliamkaaGreatDoorPg09
import Derived.Test.YtjibbnknliamkaaGreatDoorPg10
import Derived.Test.YtjibbnknliamkaaGreatDoorPg11
import Derived.Test.YtjibbnknliamkaaGreatDoorPg12
import Derived.Test.YtjibbnknliamkaaGreatDoorPg13
import Derived.Test.YtjibbnknliamkaaGreatDoorPg14
import Derived.Test.YtjibbnknliamkaaGreatDoorPg15
import Derived.Test.YtjibbnknliamkaaGreatDoorPg16
import Derived.Test.YtjibbnknliamkaaGreatDoorPg17
import Derived.Test.YtjibbnknliamkaaGreatDoorPg18
import Derived.Test.YtjibbnknliamkaaGreatDoorPg19
import Derived.Test.YtjibbnknliamkaaGreatDoorPg20
import Derived.Test.YtjibbnknliamkaaGreatDoorPg21
import Derived.Test.YtjibbnknliamkaaGreatDoorPg22
import Derived.Test.YtjibbnknliamkaaGreatDoorPg23
import Derived.Test.YtjibbnknliamkaaGreatDoorPg24
import Derived.Test.YtjibbnknliamkaaGreatDoorPg25
import Derived.Test.YtjibbnknliamkaaGreatDoorPg26
import Derived.Test.YtjibbnknliamkaaGreatDoorPg27
import Derived.Test.YtjibbnknliamkaaGreatDoorPg28
import Derived.Test.YtjibbnknliamkaaGreatDoorPg29
import Derived.Test.YtjibbnknliamkaaGreatDoorPg30
import Derived.Test.YtjibbnknliamkaaGreatDoorPg31
import Derived.Test.YtjibbnknliamkaaGreatDoorPg32
import Derived.Test.YtjibbnknliamkaaGreatDoorPg33
import Derived.Test.YtjibbnknliamkaaGreatDoorPg34
import Derived.Test.YtjibbnknliamkaaGreatDoorPg35
import Derived.Test.YtjibbnknliamkaaGreatDoorPg36
import Derived.Test.YtjibbnknliamkaaGreatDoorPg37
import Derived.Test.YtjibbnknliamkaaGreatDoorQh00
import Derived.Test.YtjibbnknliamkaaGreatDoorQh01
import Derived.Deep.RegionHeld3
namespace Go.Proofs.YtjibbnknliamkaaGreatDoor
open Go Go.RowKit
set_option linter.unusedVariables false
set_option linter.unusedSimpArgs false
/-- What the call for an entry's key gives. -/
theorem pt_top {S W : Int} {h : ByteArray → Int} {t : TP} (hs : Spc S h W t) {j : Nat} (hj : j < t.L.length) : findX t.S t.T t.L (t.L.getD j Ent.z).k = t.L.getD j Ent.z ∧ keyB (byt (t.L.getD j Ent.z).k) = true := by
  have hm : t.L.getD j Ent.z ∈ t.L := by rw [show t.L.getD j Ent.z = t.L[j] by simp [List.getD, hj]]; exact List.getElem_mem hj
  have hk := (entE_zero (hs.ent _ hm)).1
  refine ⟨?_, hk⟩
  unfold findX
  rw [show findE t.S t.T t.L (t.L.getD j Ent.z).k = 0 by unfold findE; rw [if_neg (fun hn => hn hs.valid), if_neg (by rw [hk]; simp)], if_neg (fun hn => hn rfl)]
  exact hs.key.find hm _
theorem pt_frq {S W : Int} {h : ByteArray → Int} {f : FQ} (hs : Mg S h W f) {j : Nat} (hj : j < (sortE (f.L.map (setE f.K))).length) :
    (cntK_2 f.L ((sortE (f.L.map (setE f.K))).getD j Ent.z).k = ((sortE (f.L.map (setE f.K))).getD j Ent.z).c ∧ f.K = ((sortE (f.L.map (setE f.K))).getD j Ent.z).e) ∧ keyB (byt ((sortE (f.L.map (setE f.K))).getD j Ent.z).k) = true := by
  have hm : (sortE (f.L.map (setE f.K))).getD j Ent.z ∈ sortE (f.L.map (setE f.K)) := by rw [show (sortE (f.L.map (setE f.K))).getD j Ent.z = (sortE (f.L.map (setE f.K)))[j] by simp [List.getD, hj]]; exact List.getElem_mem hj
  generalize (sortE (f.L.map (setE f.K))).getD j Ent.z = X at *
  have hm2 := (sortE_perm (f.L.map (setE f.K))).mem_iff.1 hm
  obtain ⟨y, hy, rfl⟩ := List.mem_map.1 hm2
  obtain ⟨i, hi, he⟩ := List.mem_iff_getElem.1 hy
  have hg : f.L.getD i Ent.z = y := by simp [List.getD, hi, he]
  have hc := cntK_at hs.val.asc hi (k := y.k) (by rw [hg]; unfold sameK; simp)
  rw [hg] at hc
  have hq := hs.val.ent i hi
  rw [hg] at hq
  exact ⟨⟨hc, rfl⟩, (entQ_zero hq).1⟩
theorem pt_top_bd {S W : Int} {h : ByteArray → Int} {t : TP} (hs : Spc S h W t) {K : ByteArray} (hk : keyB (byt K) = true) : (findX t.S t.T t.L K).c ≤ t.T ∧ (findX t.S t.T t.L K).e ≤ t.T := by
  unfold findX
  rw [show findE t.S t.T t.L K = 0 by unfold findE; rw [if_neg (fun hn => hn hs.valid), if_neg (by rw [hk]; simp)], if_neg (fun hn => hn rfl)]
  have ha := hs.any K
  have hT := hs.hT
  rw [hs.hS]
  omega
theorem pt_frq_bd {S W : Int} {h : ByteArray → Int} {f : FQ} (hs : Mg S h W f) (K : ByteArray) : cntK_2 f.L K ≤ f.T ∧ f.K ≤ f.T := by
  have h1 := cntK_nn hs.val.gd K
  have h2 := hs.kle
  have h3 := hs.tot
  have h4 := hs.val.k0
  omega
set_option maxRecDepth 100000 in
set_option maxHeartbeats 4000000 in
theorem points_top (L : List Int) (v : Value) (n : Int) (W : World) (hv : RdI L v W) (hn : n % 2 = 0) (ht : SupT W) :
    Calls Tryz.prog 7 #[v, .int .i64 n] W fun e w' => e = .returned (.bool true) ∧ Below W.heap.size W w' := by
  have m1 := maskq1 n
  rw [hn] at m1
  have m2 := maskq2 (n / 2)
  have m3 := maskq4 (n / 16)
  have e2 : 0 ≤ n / 2 % 4 ∧ n / 2 % 4 ≤ 3 := by omega
  have e3 : 0 ≤ n / 16 % 16 ∧ n / 16 % 16 ≤ 15 := by omega
  clear hn
  generalize n / 2 % 4 = p at *
  generalize n / 16 % 16 = c at *
  have HSk := Lib.hid (fun (w' : World) (hb : Below W.heap.size W w') => skof_top (1 + p) L v w' (by omega) (by omega) (hv.below hb))
  have H9 := Lib.hid (fun (w : World) (h : SupT w) => known13_any w h)
  have HKy := Lib.hid (fun w => key_any c w (by omega) (by omega))
  obtain ⟨KY, hKY⟩ : ∃ K, keyS c = K := ⟨_, rfl⟩
  have HKb : Hid (keyB (byt KY) = true ∧ KY.size ≤ maxLen) := Lib.hid (by rw [← hKY]; exact ⟨key_isB c, key_len c⟩)
  rw [hKY] at HKy
  clear hKY
  have T0 := Lib.hid ht
  have E2 := Lib.hid e2
  obtain ⟨a0, cap0, rfl⟩ := hv.shape
  clear hv ht e3
  go_enter Tryz.func7, Tryz.ntmps7
  go_wp2_with (first
    | (refine stPm (A' := #[.int .i64 4, .int .i64 (1 + p), .int .i64 0, .int .u64 0]) rfl rfl rfl (RowAt.new W _ _) rfl rfl (all_one rfl) (show 0 + 4 ≤ 4 by decide) (by kernel_rfl) ?_; intro w1 r1 o1; have P1 := Lib.hid r1; have B1 := Lib.hid (Below.trans (b1 _) (o1.1 : Below W.heap.size _ w1)); clear r1 o1)
    | (refine ldPm (B := #[.int .i64 4, .int .i64 (1 + p), .int .i64 0, .int .u64 0]) rfl rfl rfl P1.out rfl (by kernel_rfl) ?_)
    | (go_at_call 21; (with_reducible refine (HSk.out _ B1.out).mono ?_); rintro e w2 ⟨u, s, rfl, hst, ⟨t, hh, WW, rfl, hs⟩, hb2⟩; have B2 := Lib.hid (bgo B1.out hb2); have S2 := Lib.hid (hst _ (Abv.refl _ _)); have M2 := Lib.hid hs; obtain ⟨a1, c1, a2, c2, a3, c3, a4, c4, a5, c5, rfl, hrr⟩ := S2.out.run; have RR2 := Lib.hid hrr; clear hst hb2 hrr hs)
    | (refine stWh (B := #[.int .i64 4, .int .i64 t.S, .int .i64 0, .int .u64 0, .int .i64 0, .int .i64 0, .bool false, .int .i64 0, .int .i64 0, .int .u64 0, .slice a1 0 c1, .bool false, .int .i64 0, .int .u64 0, .slice a2 0 c2, .int .i64 t.S, .int .i64 t.T, .slice a3 t.L.length c3, .bool t.s, .int .i64 0, .int .i64 0, .int .i64 0, .slice a4 0 c4, .bool false, .int .i64 0, .int .i64 0, .int .i64 0, .slice a5 0 c5, .bool false]) rfl rfl rfl (RowAt.new w2 _ _) rfl rfl rfl rfl ?_; intro w3 r3 o3; have D3 := Lib.hid (Below.trans (b1 _) (o3.1 : Below w2.heap.size _ w3)); have R3 := Lib.hid r3; have RR3 := Lib.hid (RR2.out.below D3.out); have B3 := Lib.hid (bgo B2.out D3.out); have T3 := Lib.hid (T0.out.go B3.out); have HEn : Hid (Calls Tryz.prog 18 #[.agg #[.int .i64 4, .int .i64 t.S, .int .i64 0, .int .u64 0, .int .i64 0, .int .i64 0, .bool false, .int .i64 0, .int .i64 0, .int .u64 0, .slice a1 0 c1, .bool false, .int .i64 0, .int .u64 0, .slice a2 0 c2, .int .i64 t.S, .int .i64 t.T, .slice a3 t.L.length c3, .bool t.s, .int .i64 0, .int .i64 0, .int .i64 0, .slice a4 0 c4, .bool false, .int .i64 0, .int .i64 0, .int .i64 0, .slice a5 0 c5, .bool false]] w3 fun e w' => ∃ v, e = .returned (.tuple #[v, .int .i64 0]) ∧ RdE t.L v w' ∧ Below w3.heap.size w3 w') := Lib.hid (by have hs := M2.out; exact en_top t a1 c1 a2 c2 a3 c3 a4 c4 a5 c5 w3 (by have := hs.len; have := hs.s1; omega) RR3.out (wf_fmO hs.bd (by have := hs.len; have := hs.s1; omega)) (val_fm4 (by have := hs.hS; have := hs.s0; omega) (by have := hs.hS; have := hs.s1; omega) hs.valid) T3.out); clear r3 o3 D3 B2 S2 RR2)
    | (refine ldSk (B := #[.int .i64 4, .int .i64 t.S, .int .i64 0, .int .u64 0, .int .i64 0, .int .i64 0, .bool false, .int .i64 0, .int .i64 0, .int .u64 0, .slice a1 0 c1, .bool false, .int .i64 0, .int .u64 0, .slice a2 0 c2, .int .i64 t.S, .int .i64 t.T, .slice a3 t.L.length c3, .bool t.s, .int .i64 0, .int .i64 0, .int .i64 0, .slice a4 0 c4, .bool false, .int .i64 0, .int .i64 0, .int .i64 0, .slice a5 0 c5, .bool false]) rfl rfl rfl R3.out rfl (by kernel_rfl) ?_)
    | (go_at_call 18; (with_reducible refine HEn.out.mono ?_); rintro e w4 ⟨vl, rfl, ho4, hb4⟩; obtain ⟨ab, cb, rfl⟩ := ho4.shape; have HF : Hid (RowAt w2.heap.size #[.int .i64 4, .int .i64 t.S, .int .i64 0, .int .u64 0, .int .i64 0, .int .i64 0, .bool false, .int .i64 0, .int .i64 0, .int .u64 0, .slice a1 0 c1, .bool false, .int .i64 0, .int .u64 0, .slice a2 0 c2, .int .i64 t.S, .int .i64 t.T, .slice a3 t.L.length c3, .bool t.s, .int .i64 0, .int .i64 0, .int .i64 0, .slice a4 0 c4, .bool false, .int .i64 0, .int .i64 0, .int .i64 0, .slice a5 0 c5, .bool false] w4 ∧ RowsK (fmO t) (.slice a1 0 c1) (.slice a2 0 c2) (.slice a3 t.L.length c3) (.slice a4 0 c4) (.slice a5 0 c5) w4 ∧ RdE t.L (.slice ab (t.L).length cb) w4 ∧ Below W.heap.size W w4) := Lib.hid ⟨R3.out.go hb4, RR3.out.below hb4, ho4, bgo B3.out hb4⟩; clear ho4 hb4 R3 RR3 B3 T3 HEn))
  have HLen : Hid ((t.L).length ≤ 32) := Lib.hid (by have hs := M2.out; have := hs.len; have := hs.s1; omega)
  go_loopw [9, 10, 11] (fun i _ _ wr => ∃ j : Nat, i = .int .i64 (j : Int) ∧ j ≤ (t.L).length ∧ Hid (RowAt w2.heap.size #[.int .i64 4, .int .i64 t.S, .int .i64 0, .int .u64 0, .int .i64 0, .int .i64 0, .bool false, .int .i64 0, .int .i64 0, .int .u64 0, .slice a1 0 c1, .bool false, .int .i64 0, .int .u64 0, .slice a2 0 c2, .int .i64 t.S, .int .i64 t.T, .slice a3 t.L.length c3, .bool t.s, .int .i64 0, .int .i64 0, .int .i64 0, .slice a4 0 c4, .bool false, .int .i64 0, .int .i64 0, .int .i64 0, .slice a5 0 c5, .bool false] wr ∧ RowsK (fmO t) (.slice a1 0 c1) (.slice a2 0 c2) (.slice a3 t.L.length c3) (.slice a4 0 c4) (.slice a5 0 c5) wr ∧ RdE t.L (.slice ab (t.L).length cb) wr ∧ Below W.heap.size W wr)) (fun i _ _ _ => (t.L).length - (intOf i).toNat)
  case atStart => exact ⟨0, rfl, Nat.zero_le _, HF⟩
  case round =>
    clear HF
    obtain ⟨j, rfl, hj, HF⟩ := hrel
    obtain ⟨hrow, hrr, hr, hb⟩ := HF.out
    by_cases hlt : j < (t.L).length
    · have hlt2 : (j : Int) < ((t.L).length : Int) := by omega
      have hjn2 : ¬ (t.L).length ≤ j := by omega
      have hj32 : (j : Int) < 32 := by have := HLen.out; omega
      have hr0 := hr
      obtain ⟨hok9, a9, c9, he9, _, _, hc9⟩ := hr0
      simp only [Value.slice.injEq, true_and] at he9
      obtain ⟨rfl, rfl⟩ := he9
      obtain ⟨b9, off9, rfl, hb9, hcell9⟩ := hc9 (by omega)
      have HX := Lib.hid (fun (w' : World) (hb' : Below wr.heap.size wr w') => (hcell9 j hlt).below hb' hb9)
      have HAs : Hid (∀ w' : World, Below wr.heap.size wr w' → Calls Tryz.prog 15 #[.agg #[.int .i64 4, .int .i64 t.S, .int .i64 0, .int .u64 0, .int .i64 0, .int .i64 0, .bool false, .int .i64 0, .int .i64 0, .int .u64 0, .slice a1 0 c1, .bool false, .int .i64 0, .int .u64 0, .slice a2 0 c2, .int .i64 t.S, .int .i64 t.T, .slice a3 t.L.length c3, .bool t.s, .int .i64 0, .int .i64 0, .int .i64 0, .slice a4 0 c4, .bool false, .int .i64 0, .int .i64 0, .int .i64 0, .slice a5 0 c5, .bool false], .agg #[.int .i64 2, .string ((t.L).getD j Ent.z).k, .int .i64 0, .int .i64 0, .int .i64 0]] w' fun e w'' => e = .returned (.tuple #[.agg #[.int .i64 ((t.L).getD j Ent.z).c, .int .i64 ((t.L).getD j Ent.z).e, .string ⟨#[]⟩, .slice none 0 0, .slice none 0 0, .bool t.s], .int .i64 0]) ∧ Below w'.heap.size w' w'') := Lib.hid (fun w' hb' => by
        have hs := M2.out
        have := as2_top t a1 c1 a2 c2 a3 c3 a4 c4 a5 c5 ((t.L).getD j Ent.z).k hs.valid (pt_top hs hlt).2 (hok9.at_ j).1 w' (hrr.below hb') (wf_fmO hs.bd (by have := hs.len; have := hs.s1; omega)) (val_fm4 (by have := hs.hS; have := hs.s0; omega) (by have := hs.hS; have := hs.s1; omega) hs.valid) (T0.out.go (bgo hb hb'))
        rw [(pt_top hs hlt).1] at this
        exact this)
      have HRow := Lib.hid hrow
      have HRr := Lib.hid hrr
      have HR := Lib.hid hr
      have HB := Lib.hid hb
      have HB9 := Lib.hid hb9
      clear hr hb hrow hrr hcell9 hc9 hb9 HF hj hok9
      generalize (t.L).getD j Ent.z = X at HX HAs
      go_upto_region 9 with (fail)
      refine wp_meetY 10 11 40 11 (fun v u wx => ∃ g : Nat, v = .pointer (some ⟨g, 0, none⟩) ∧ u = .int .i64 0 ∧ Hid (RowAt g #[.int .i64 X.c, .int .i64 X.e, .string ⟨#[]⟩, .slice none 0 0, .slice none 0 0, .bool t.s] wx ∧ Below wr.heap.size wr wx)) ?_ ?_
      · intro G hG
        refine wp_region_held_drew (S := fun w' => RowAt w2.heap.size #[.int .i64 4, .int .i64 t.S, .int .i64 0, .int .u64 0, .int .i64 0, .int .i64 0, .bool false, .int .i64 0, .int .i64 0, .int .u64 0, .slice a1 0 c1, .bool false, .int .i64 0, .int .u64 0, .slice a2 0 c2, .int .i64 t.S, .int .i64 t.T, .slice a3 t.L.length c3, .bool t.s, .int .i64 0, .int .i64 0, .int .i64 0, .slice a4 0 c4, .bool false, .int .i64 0, .int .i64 0, .int .i64 0, .slice a5 0 c5, .bool false] w' ∧ w'.cell? ⟨b9, off9 + j * 3, none⟩ = some (.string X.k)) (by kernel_rfl) ⟨HRow.out.drew, (HX.out _ (Below.refl _ _)).1⟩ (fun hH0 => ?_)
        refine wpAnyH_take (i := 0) (v := .agg #[.int .i64 4, .int .i64 t.S, .int .i64 0, .int .u64 0, .int .i64 0, .int .i64 0, .bool false, .int .i64 0, .int .i64 0, .int .u64 0, .slice a1 0 c1, .bool false, .int .i64 0, .int .u64 0, .slice a2 0 c2, .int .i64 t.S, .int .i64 t.T, .slice a3 t.L.length c3, .bool t.s, .int .i64 0, .int .i64 0, .int .i64 0, .slice a4 0 c4, .bool false, .int .i64 0, .int .i64 0, .int .i64 0, .slice a5 0 c5, .bool false]) rfl (by kernel_rfl) (by kernel_rfl) (by kernel_rfl) (fun _ _ _ h => h) (Or.inl ⟨by rfl, fun _ hs => run_part rfl rfl hs.1 Tryz.underlying48 rfl infSk (by kernel_rfl)⟩) hH0 ?_
        try simp only [Act.put, List.getElem_toArray, List.getElem_cons_zero, List.getElem_cons_succ, List.setIfInBounds_toArray, List.set_cons_zero, List.set_cons_succ]
        refine wpAnyH_take (i := 1) (v := .slice (some ⟨b9, off9, none⟩) (t.L).length cb) rfl (by kernel_rfl) (by kernel_rfl) (by kernel_rfl) (fun _ _ _ h => h) (Or.inl ⟨by rfl, fun _ _ => run_mv rfl rfl⟩) hH0 ?_
        try simp only [Act.put, List.getElem_toArray, List.getElem_cons_zero, List.getElem_cons_succ, List.setIfInBounds_toArray, List.set_cons_zero, List.set_cons_succ]
        refine wpAnyH_take (i := 2) (v := .int .i64 (j : Int)) rfl (by kernel_rfl) (by kernel_rfl) (by kernel_rfl) (fun _ _ _ h => h) (Or.inl ⟨by rfl, fun _ _ => run_mv rfl rfl⟩) hH0 ?_
        try simp only [Act.put, List.getElem_toArray, List.getElem_cons_zero, List.getElem_cons_succ, List.setIfInBounds_toArray, List.set_cons_zero, List.set_cons_succ]
        refine wpAnyH_take (i := 3) (v := .pointer (some ⟨b9, off9 + j * 3, none⟩)) rfl (by kernel_rfl) (by kernel_rfl) (by kernel_rfl) (fun _ _ _ h => h) (Or.inl ⟨by rfl, fun ww hSw => by go_simp⟩) hH0 ?_
        try simp only [Act.put, List.getElem_toArray, List.getElem_cons_zero, List.getElem_cons_succ, List.setIfInBounds_toArray, List.set_cons_zero, List.set_cons_succ]
        refine wpAnyH_take (i := 4) (v := .pointer (some ⟨b9, off9 + j * 3, none⟩)) rfl (by kernel_rfl) (by kernel_rfl) (by kernel_rfl) (fun _ _ _ h => h) (Or.inl ⟨by rfl, fun ww hSw => by go_simp⟩) hH0 ?_
        try simp only [Act.put, List.getElem_toArray, List.getElem_cons_zero, List.getElem_cons_succ, List.setIfInBounds_toArray, List.set_cons_zero, List.set_cons_succ]
        refine wpAnyH_take (i := 5) (v := .string X.k) rfl (by kernel_rfl) (by kernel_rfl) (by kernel_rfl) (fun _ _ _ h => h) (Or.inl ⟨by rfl, fun ww hSw => by have hx := hSw.2; clear hSw; go_simp⟩) hH0 ?_
        try simp only [Act.put, List.getElem_toArray, List.getElem_cons_zero, List.getElem_cons_succ, List.setIfInBounds_toArray, List.set_cons_zero, List.set_cons_succ]
        refine wpAnyH_take (i := 6) (v := .agg #[.int .i64 2, .string X.k, .int .i64 0, .int .i64 0, .int .i64 0]) rfl (by kernel_rfl) (by kernel_rfl) (by kernel_rfl) (fun _ _ _ h => h) (Or.inl ⟨by rfl, fun ww hSw => by go_simp⟩) hH0 ?_
        try simp only [Act.put, List.getElem_toArray, List.getElem_cons_zero, List.getElem_cons_succ, List.setIfInBounds_toArray, List.set_cons_zero, List.set_cons_succ]
        refine wpAnyH_ready (rs := [7, 11]) (by kernel_rfl) (by simp) ?_
        refine AllReadyH.cons rfl (fun K1 hK1 => ?_) (AllReadyH.cons rfl (fun K1 hK1 => ?_) AllReadyH.nil)
        · skip
          (dsimp only [List.getElem_toArray, List.getElem_cons_zero, List.getElem_cons_succ])
          rw [if_pos (by rfl)]
          go_simp
          go_at_call 15
          have HC := HAs.out wr.drew (below_drew (Below.refl wr.heap.size wr))
          (with_reducible refine HC.mono ?_)
          clear HC
          rintro e w5 ⟨rfl, hb5⟩
          have D5 := Lib.hid (bgo (below_drew (Below.refl wr.heap.size wr)) hb5)
          refine hK1.out _ _ ⟨HRow.out.go D5.out, (HX.out _ D5.out).1⟩ (fun hH2 => ?_)
          clear hK1 K1
          try simp only [Act.put, List.getElem_toArray, List.getElem_cons_zero, List.getElem_cons_succ, List.setIfInBounds_toArray, List.set_cons_zero, List.set_cons_succ]
          refine wpAnyH_take (i := 8) (v := .tuple #[.agg #[.int .i64 X.c, .int .i64 X.e, .string ⟨#[]⟩, .slice none 0 0, .slice none 0 0, .bool t.s], .int .i64 0]) rfl (by kernel_rfl) (by kernel_rfl) (by kernel_rfl) (fun _ _ _ h => h) (Or.inl ⟨by rfl, fun _ _ => run_mv rfl rfl⟩) hH2 ?_
          try simp only [Act.put, List.getElem_toArray, List.getElem_cons_zero, List.getElem_cons_succ, List.setIfInBounds_toArray, List.set_cons_zero, List.set_cons_succ]
          refine wpAnyH_take (i := 9) (v := .agg #[.int .i64 X.c, .int .i64 X.e, .string ⟨#[]⟩, .slice none 0 0, .slice none 0 0, .bool t.s]) rfl (by kernel_rfl) (by kernel_rfl) (by kernel_rfl) (fun _ _ _ h => h) (Or.inl ⟨by rfl, fun ww hSw => by go_simp⟩) hH2 ?_
          try simp only [Act.put, List.getElem_toArray, List.getElem_cons_zero, List.getElem_cons_succ, List.setIfInBounds_toArray, List.set_cons_zero, List.set_cons_succ]
          refine wpAnyH_take (i := 10) (v := .int .i64 0) rfl (by kernel_rfl) (by kernel_rfl) (by kernel_rfl) (fun _ _ _ h => h) (Or.inl ⟨by rfl, fun ww hSw => by go_simp⟩) hH2 ?_
          try simp only [Act.put, List.getElem_toArray, List.getElem_cons_zero, List.getElem_cons_succ, List.setIfInBounds_toArray, List.set_cons_zero, List.set_cons_succ]
          refine wpAnyH_ready (rs := [11]) (by kernel_rfl) (by simp) ?_
          refine AllReadyH.cons rfl (fun K1 hK1 => ?_) AllReadyH.nil
          (dsimp only [List.getElem_toArray, List.getElem_cons_zero, List.getElem_cons_succ])
          rw [if_pos (by rfl)]
          go_simp
          have D6 := Lib.hid (bgo D5.out (b1 (.cells zcAn 51)))
          refine hK1.out _ _ ⟨HRow.out.go D6.out, (HX.out _ D6.out).1⟩ (fun hH4 => ?_)
          clear hK1 K1
          try simp only [Act.put, List.getElem_toArray, List.getElem_cons_zero, List.getElem_cons_succ, List.setIfInBounds_toArray, List.set_cons_zero, List.set_cons_succ]
          refine wpAnyH_ready (rs := [12]) (by kernel_rfl) (by simp) ?_
          refine AllReadyH.cons rfl (fun K1 hK1 => ?_) AllReadyH.nil
          show ite _ _ _
          refine step_whole (B := #[.int .i64 X.c, .int .i64 X.e, .string ⟨#[]⟩, .slice none 0 0, .slice none 0 0, .bool t.s]) rfl rfl rfl (RowAt.new w5 zcAn 51) rfl infAn (all_one rfl) rfl ?_
          intro w7 r7 o7
          have D7 := Lib.hid (D6.out.trans (o7.1.mono D5.out.size))
          refine hK1.out _ _ ⟨HRow.out.go D7.out, (HX.out _ D7.out).1⟩ (fun hH3 => ?_)
          clear hK1 K1
          try simp only [Act.put, List.getElem_toArray, List.getElem_cons_zero, List.getElem_cons_succ, List.setIfInBounds_toArray, List.set_cons_zero, List.set_cons_succ]
          refine wpAnyH_take (i := 13) (v := .int .i64 0) rfl (by kernel_rfl) (by kernel_rfl) (by kernel_rfl) (fun _ _ _ h => h) (Or.inl ⟨by rfl, fun _ _ => run_as rfl rfl⟩) hH3 ?_
          try simp only [Act.put, List.getElem_toArray, List.getElem_cons_zero, List.getElem_cons_succ, List.setIfInBounds_toArray, List.set_cons_zero, List.set_cons_succ]
          refine wpAnyH_done (by kernel_rfl) ?_ _
          exact hG _ _ _ _ ⟨[_, _, _, _, _, _, _, _, _, _, _], rfl, rfl⟩ ⟨_, rfl, rfl, Lib.hid ⟨r7, D7.out⟩⟩
        · skip
          (dsimp only [List.getElem_toArray, List.getElem_cons_zero, List.getElem_cons_succ])
          rw [if_pos (by rfl)]
          go_simp
          have D4 := Lib.hid (bgo (below_drew (Below.refl wr.heap.size wr)) (b1 (.cells zcAn 51)))
          refine hK1.out _ _ ⟨HRow.out.go D4.out, (HX.out _ D4.out).1⟩ (fun hH4 => ?_)
          clear hK1 K1
          try simp only [Act.put, List.getElem_toArray, List.getElem_cons_zero, List.getElem_cons_succ, List.setIfInBounds_toArray, List.set_cons_zero, List.set_cons_succ]
          refine wpAnyH_ready (rs := [7]) (by kernel_rfl) (by simp) ?_
          refine AllReadyH.cons rfl (fun K1 hK1 => ?_) AllReadyH.nil
          (dsimp only [List.getElem_toArray, List.getElem_cons_zero, List.getElem_cons_succ])
          rw [if_pos (by rfl)]
          go_simp
          go_at_call 15
          have HC := HAs.out (wr.alloc (.cells #[.int .i64 0, .int .i64 0, .string ⟨#[]⟩, .slice none 0 0, .slice none 0 0, .bool false] 51)).drew D4.out
          (with_reducible refine HC.mono ?_)
          clear HC
          rintro e w5 ⟨rfl, hb5⟩
          have D5 := Lib.hid (bgo D4.out hb5)
          refine hK1.out _ _ ⟨HRow.out.go D5.out, (HX.out _ D5.out).1⟩ (fun hH2 => ?_)
          clear hK1 K1
          try simp only [Act.put, List.getElem_toArray, List.getElem_cons_zero, List.getElem_cons_succ, List.setIfInBounds_toArray, List.set_cons_zero, List.set_cons_succ]
          have N5 := Lib.hid ((RowAt.new wr.drew zcAn 51).go hb5)
          refine wpAnyH_take (i := 8) (v := .tuple #[.agg #[.int .i64 X.c, .int .i64 X.e, .string ⟨#[]⟩, .slice none 0 0, .slice none 0 0, .bool t.s], .int .i64 0]) rfl (by kernel_rfl) (by kernel_rfl) (by kernel_rfl) (fun _ _ _ h => h) (Or.inl ⟨by rfl, fun _ _ => run_mv rfl rfl⟩) hH2 ?_
          try simp only [Act.put, List.getElem_toArray, List.getElem_cons_zero, List.getElem_cons_succ, List.setIfInBounds_toArray, List.set_cons_zero, List.set_cons_succ]
          refine wpAnyH_take (i := 9) (v := .agg #[.int .i64 X.c, .int .i64 X.e, .string ⟨#[]⟩, .slice none 0 0, .slice none 0 0, .bool t.s]) rfl (by kernel_rfl) (by kernel_rfl) (by kernel_rfl) (fun _ _ _ h => h) (Or.inl ⟨by rfl, fun ww hSw => by go_simp⟩) hH2 ?_
          try simp only [Act.put, List.getElem_toArray, List.getElem_cons_zero, List.getElem_cons_succ, List.setIfInBounds_toArray, List.set_cons_zero, List.set_cons_succ]
          refine wpAnyH_take (i := 10) (v := .int .i64 0) rfl (by kernel_rfl) (by kernel_rfl) (by kernel_rfl) (fun _ _ _ h => h) (Or.inl ⟨by rfl, fun ww hSw => by go_simp⟩) hH2 ?_
          try simp only [Act.put, List.getElem_toArray, List.getElem_cons_zero, List.getElem_cons_succ, List.setIfInBounds_toArray, List.set_cons_zero, List.set_cons_succ]
          refine wpAnyH_ready (rs := [12]) (by kernel_rfl) (by simp) ?_
          refine AllReadyH.cons rfl (fun K1 hK1 => ?_) AllReadyH.nil
          show ite _ _ _
          refine step_whole (B := #[.int .i64 X.c, .int .i64 X.e, .string ⟨#[]⟩, .slice none 0 0, .slice none 0 0, .bool t.s]) rfl rfl rfl N5.out rfl infAn (all_one rfl) rfl ?_
          intro w7 r7 o7
          have D7 := Lib.hid (D5.out.trans (o7.1.mono (Nat.le_refl _)))
          refine hK1.out _ _ ⟨HRow.out.go D7.out, (HX.out _ D7.out).1⟩ (fun hH3 => ?_)
          clear hK1 K1
          try simp only [Act.put, List.getElem_toArray, List.getElem_cons_zero, List.getElem_cons_succ, List.setIfInBounds_toArray, List.set_cons_zero, List.set_cons_succ]
          refine wpAnyH_take (i := 13) (v := .int .i64 0) rfl (by kernel_rfl) (by kernel_rfl) (by kernel_rfl) (fun _ _ _ h => h) (Or.inl ⟨by rfl, fun _ _ => run_as rfl rfl⟩) hH3 ?_
          try simp only [Act.put, List.getElem_toArray, List.getElem_cons_zero, List.getElem_cons_succ, List.setIfInBounds_toArray, List.set_cons_zero, List.set_cons_succ]
          refine wpAnyH_done (by kernel_rfl) ?_ _
          exact hG _ _ _ _ ⟨[_, _, _, _, _, _, _, _, _, _, _], rfl, rfl⟩ ⟨_, rfl, rfl, Lib.hid ⟨r7, D7.out⟩⟩
      · intro a' wz v9 u9 hoff HX9
        obtain ⟨us, hus, rfl⟩ := hoff
        obtain ⟨g9, rfl, rfl, HG9⟩ := HX9
        obtain ⟨hg, hd⟩ := HG9.out
        match us, hus with
        | [y0, y1, y2, y3, y4, y5, y6, y7, y8, y9, y10], _ =>
          simp only [List.set_cons_succ, List.set_cons_zero, List.take_succ_cons, List.take_zero, List.drop_succ_cons, List.drop_zero, List.cons_append, List.nil_append]
          have A9 := Lib.hid hg
          have D9 := Lib.hid hd
          have HX2 := Lib.hid (fun (w' : World) (hb' : Below wz.heap.size wz w') => HX.out w' (bgo hd hb'))
          clear hg hd HG9 HX HAs
          go_upto_region 10 with (fail)
          rename_i K3 hK3
          refine wp_region_quiet (C := fun w' => Below wz.heap.size wz w') (by kernel_rfl) (by kernel_rfl) ⟨rfl, rfl, rfl, Nat.le_refl _, fun _ _ => rfl⟩ ?_
          refine wpQuiet_do (v := .int .i64 0) rfl (fun w' hc => quiet_value (run_mv rfl rfl)) ?_
          try simp only [Act.put, List.getElem_toArray, List.getElem_cons_zero, List.getElem_cons_succ, List.setIfInBounds_toArray, List.set_cons_zero, List.set_cons_succ]
          refine wpQuiet_do (v := .bool false) rfl (fun w' hc => quiet_value (neEr0 rfl rfl)) ?_
          try simp only [Act.put, List.getElem_toArray, List.getElem_cons_zero, List.getElem_cons_succ, List.setIfInBounds_toArray, List.set_cons_zero, List.set_cons_succ]
          refine wpQuiet_do (v := .bool false) rfl (fun w' hc => quiet_value (run_mv rfl rfl)) ?_
          try simp only [Act.put, List.getElem_toArray, List.getElem_cons_zero, List.getElem_cons_succ, List.setIfInBounds_toArray, List.set_cons_zero, List.set_cons_succ]
          refine wpQuiet_if (p := true) (v := .pointer (some ⟨g9, 0, none⟩)) rfl (fun _ w' hc => quiet_value (by go_simp)) ?_
          try simp only [Act.put, List.getElem_toArray, List.getElem_cons_zero, List.getElem_cons_succ, List.setIfInBounds_toArray, List.set_cons_zero, List.set_cons_succ]
          refine wpQuiet_if (p := true) (v := .int .i64 X.c) rfl (fun _ w' hc => quiet_value (run_cell rfl rfl (A9.out.go hc) Tryz.underlying3 rfl rfl)) ?_
          try simp only [Act.put, List.getElem_toArray, List.getElem_cons_zero, List.getElem_cons_succ, List.setIfInBounds_toArray, List.set_cons_zero, List.set_cons_succ]
          refine wpQuiet_if (p := true) (v := .slice (some ⟨b9, off9, none⟩) (t.L).length cb) rfl (fun _ w' hc => quiet_value (run_mv rfl rfl)) ?_
          try simp only [Act.put, List.getElem_toArray, List.getElem_cons_zero, List.getElem_cons_succ, List.setIfInBounds_toArray, List.set_cons_zero, List.set_cons_succ]
          refine wpQuiet_if (p := true) (v := .int .i64 (j : Int)) rfl (fun _ w' hc => quiet_value (run_mv rfl rfl)) ?_
          try simp only [Act.put, List.getElem_toArray, List.getElem_cons_zero, List.getElem_cons_succ, List.setIfInBounds_toArray, List.set_cons_zero, List.set_cons_succ]
          refine wpQuiet_if (p := true) (v := .pointer (some ⟨b9, off9 + j * 3, none⟩)) rfl (fun _ w' hc => quiet_value (by go_simp)) ?_
          try simp only [Act.put, List.getElem_toArray, List.getElem_cons_zero, List.getElem_cons_succ, List.setIfInBounds_toArray, List.set_cons_zero, List.set_cons_succ]
          refine wpQuiet_if (p := true) (v := .pointer (some ⟨b9, off9 + j * 3 + 1, none⟩)) rfl (fun _ w' hc => quiet_value (by go_simp)) ?_
          try simp only [Act.put, List.getElem_toArray, List.getElem_cons_zero, List.getElem_cons_succ, List.setIfInBounds_toArray, List.set_cons_zero, List.set_cons_succ]
          refine wpQuiet_if (p := true) (v := .int .i64 X.c) rfl (fun _ w' hc => quiet_value (by obtain ⟨p0, p1, p2⟩ := HX2.out w' hc; clear HX2; go_simp)) ?_
          try simp only [Act.put, List.getElem_toArray, List.getElem_cons_zero, List.getElem_cons_succ, List.setIfInBounds_toArray, List.set_cons_zero, List.set_cons_succ]
          refine wpQuiet_if (p := true) (v := .bool false) rfl (fun _ w' hc => quiet_value (by go_simp)) ?_
          try simp only [Act.put, List.getElem_toArray, List.getElem_cons_zero, List.getElem_cons_succ, List.setIfInBounds_toArray, List.set_cons_zero, List.set_cons_succ]
          refine wpQuiet_do (v := .bool false) rfl (fun w' hc => quiet_value (run_pkF rfl rfl rfl)) ?_
          try simp only [Act.put, List.getElem_toArray, List.getElem_cons_zero, List.getElem_cons_succ, List.setIfInBounds_toArray, List.set_cons_zero, List.set_cons_succ]
          refine wpQuiet_do (v := .bool false) rfl (fun w' hc => quiet_value (run_mv rfl rfl)) ?_
          try simp only [Act.put, List.getElem_toArray, List.getElem_cons_zero, List.getElem_cons_succ, List.setIfInBounds_toArray, List.set_cons_zero, List.set_cons_succ]
          refine wpQuiet_if (p := true) (v := .pointer (some ⟨g9, 1, none⟩)) rfl (fun _ w' hc => quiet_value (by go_simp)) ?_
          try simp only [Act.put, List.getElem_toArray, List.getElem_cons_zero, List.getElem_cons_succ, List.setIfInBounds_toArray, List.set_cons_zero, List.set_cons_succ]
          refine wpQuiet_if (p := true) (v := .int .i64 X.e) rfl (fun _ w' hc => quiet_value (run_cell rfl rfl (A9.out.go hc) Tryz.underlying3 rfl rfl)) ?_
          try simp only [Act.put, List.getElem_toArray, List.getElem_cons_zero, List.getElem_cons_succ, List.setIfInBounds_toArray, List.set_cons_zero, List.set_cons_succ]
          refine wpQuiet_if (p := true) (v := .slice (some ⟨b9, off9, none⟩) (t.L).length cb) rfl (fun _ w' hc => quiet_value (run_mv rfl rfl)) ?_
          try simp only [Act.put, List.getElem_toArray, List.getElem_cons_zero, List.getElem_cons_succ, List.setIfInBounds_toArray, List.set_cons_zero, List.set_cons_succ]
          refine wpQuiet_if (p := true) (v := .int .i64 (j : Int)) rfl (fun _ w' hc => quiet_value (run_mv rfl rfl)) ?_
          try simp only [Act.put, List.getElem_toArray, List.getElem_cons_zero, List.getElem_cons_succ, List.setIfInBounds_toArray, List.set_cons_zero, List.set_cons_succ]
          refine wpQuiet_if (p := true) (v := .pointer (some ⟨b9, off9 + j * 3, none⟩)) rfl (fun _ w' hc => quiet_value (by go_simp)) ?_
          try simp only [Act.put, List.getElem_toArray, List.getElem_cons_zero, List.getElem_cons_succ, List.setIfInBounds_toArray, List.set_cons_zero, List.set_cons_succ]
          refine wpQuiet_if (p := true) (v := .pointer (some ⟨b9, off9 + j * 3 + 2, none⟩)) rfl (fun _ w' hc => quiet_value (by go_simp)) ?_
          try simp only [Act.put, List.getElem_toArray, List.getElem_cons_zero, List.getElem_cons_succ, List.setIfInBounds_toArray, List.set_cons_zero, List.set_cons_succ]
          refine wpQuiet_if (p := true) (v := .int .i64 X.e) rfl (fun _ w' hc => quiet_value (by obtain ⟨p0, p1, p2⟩ := HX2.out w' hc; clear HX2; go_simp)) ?_
          try simp only [Act.put, List.getElem_toArray, List.getElem_cons_zero, List.getElem_cons_succ, List.setIfInBounds_toArray, List.set_cons_zero, List.set_cons_succ]
          refine wpQuiet_if (p := true) (v := .bool false) rfl (fun _ w' hc => quiet_value (by go_simp)) ?_
          try simp only [Act.put, List.getElem_toArray, List.getElem_cons_zero, List.getElem_cons_succ, List.setIfInBounds_toArray, List.set_cons_zero, List.set_cons_succ]
          refine wpQuiet_do (v := .bool false) rfl (fun w' hc => quiet_value (run_pkF rfl rfl rfl)) ?_
          try simp only [Act.put, List.getElem_toArray, List.getElem_cons_zero, List.getElem_cons_succ, List.setIfInBounds_toArray, List.set_cons_zero, List.set_cons_succ]
          refine wpQuiet_nil ?_
          intro w8 hw8
          have D8 := Lib.hid (bgo D9.out hw8)
          have HF8 : Hid (RowAt w2.heap.size #[.int .i64 4, .int .i64 t.S, .int .i64 0, .int .u64 0, .int .i64 0, .int .i64 0, .bool false, .int .i64 0, .int .i64 0, .int .u64 0, .slice a1 0 c1, .bool false, .int .i64 0, .int .u64 0, .slice a2 0 c2, .int .i64 t.S, .int .i64 t.T, .slice a3 t.L.length c3, .bool t.s, .int .i64 0, .int .i64 0, .int .i64 0, .slice a4 0 c4, .bool false, .int .i64 0, .int .i64 0, .int .i64 0, .slice a5 0 c5, .bool false] w8 ∧ RowsK (fmO t) (.slice a1 0 c1) (.slice a2 0 c2) (.slice a3 t.L.length c3) (.slice a4 0 c4) (.slice a5 0 c5) w8 ∧ RdE t.L (.slice (some ⟨b9, off9, none⟩) (t.L).length cb) w8 ∧ Below W.heap.size W w8) := Lib.hid ⟨HRow.out.go D8.out, HRr.out.below D8.out, HR.out.below D8.out, bgo HB.out D8.out⟩
          refine hK3 _ _ ?_
          clear hK3 hw8 HX2 A9 D9 D8
          try simp only [Act.put, List.getElem_toArray, List.getElem_cons_zero, List.getElem_cons_succ, List.setIfInBounds_toArray, List.set_cons_zero, List.set_cons_succ]
          go_wp2
          go_roundw
          case rel => exact ⟨j + 1, by go_num, by omega, HF8⟩
          case measure => simp [intOf]; omega
    · obtain rfl : j = (t.L).length := by omega
      have hs := M2.out
      have hbd := pt_top_bd hs HKb.out.1
      obtain ⟨hbd1, hbd2⟩ := hbd
      have HTo : Hid (∀ w' : World, Below wr.heap.size wr w' → Calls Tryz.prog 15 #[.agg #[.int .i64 4, .int .i64 t.S, .int .i64 0, .int .u64 0, .int .i64 0, .int .i64 0, .bool false, .int .i64 0, .int .i64 0, .int .u64 0, .slice a1 0 c1, .bool false, .int .i64 0, .int .u64 0, .slice a2 0 c2, .int .i64 t.S, .int .i64 t.T, .slice a3 t.L.length c3, .bool t.s, .int .i64 0, .int .i64 0, .int .i64 0, .slice a4 0 c4, .bool false, .int .i64 0, .int .i64 0, .int .i64 0, .slice a5 0 c5, .bool false], .agg #[.int .i64 1, .string ⟨#[]⟩, .int .i64 0, .int .i64 0, .int .i64 0]] w' fun e w'' => e = .returned (.tuple #[.agg #[.int .i64 t.T, .int .i64 0, .string ⟨#[]⟩, .slice none 0 0, .slice none 0 0, .bool t.s], .int .i64 0]) ∧ Below w'.heap.size w' w'') := Lib.hid (fun (w' : World) (hb' : Below wr.heap.size wr w') => as1_top t a1 c1 a2 c2 a3 c3 a4 c4 a5 c5 w' (hrr.below hb') (wf_fmO hs.bd (by have := hs.len; have := hs.s1; omega)) (val_fm4 (by have := hs.hS; have := hs.s0; omega) (by have := hs.hS; have := hs.s1; omega) hs.valid) (T0.out.go (bgo hb hb')))
      have HPt : Hid (∀ w' : World, Below wr.heap.size wr w' → Calls Tryz.prog 15 #[.agg #[.int .i64 4, .int .i64 t.S, .int .i64 0, .int .u64 0, .int .i64 0, .int .i64 0, .bool false, .int .i64 0, .int .i64 0, .int .u64 0, .slice a1 0 c1, .bool false, .int .i64 0, .int .u64 0, .slice a2 0 c2, .int .i64 t.S, .int .i64 t.T, .slice a3 t.L.length c3, .bool t.s, .int .i64 0, .int .i64 0, .int .i64 0, .slice a4 0 c4, .bool false, .int .i64 0, .int .i64 0, .int .i64 0, .slice a5 0 c5, .bool false], .agg #[.int .i64 2, .string KY, .int .i64 0, .int .i64 0, .int .i64 0]] w' fun e w'' => e = .returned (.tuple #[.agg #[.int .i64 ((findX t.S t.T t.L KY).c), .int .i64 (findX t.S t.T t.L KY).e, .string ⟨#[]⟩, .slice none 0 0, .slice none 0 0, .bool t.s], .int .i64 0]) ∧ Below w'.heap.size w' w'') := Lib.hid (fun (w' : World) (hb' : Below wr.heap.size wr w') => as2_top t a1 c1 a2 c2 a3 c3 a4 c4 a5 c5 KY hs.valid HKb.out.1 HKb.out.2 w' (hrr.below hb') (wf_fmO hs.bd (by have := hs.len; have := hs.s1; omega)) (val_fm4 (by have := hs.hS; have := hs.s0; omega) (by have := hs.hS; have := hs.s1; omega) hs.valid) (T0.out.go (bgo hb hb')))
      have HRow := Lib.hid hrow
      have HB := Lib.hid hb
      clear hs hrow hrr hr hb HF hj
      generalize (findX t.S t.T t.L KY).c = V9 at *
      generalize (findX t.S t.T t.L KY).e = E9 at *
      have hlt2 : ¬ ((t.L).length : Int) < ((t.L).length : Int) := by omega
      go_upto_region 13 with (first
        | (refine ldSk (B := #[.int .i64 4, .int .i64 t.S, .int .i64 0, .int .u64 0, .int .i64 0, .int .i64 0, .bool false, .int .i64 0, .int .i64 0, .int .u64 0, .slice a1 0 c1, .bool false, .int .i64 0, .int .u64 0, .slice a2 0 c2, .int .i64 t.S, .int .i64 t.T, .slice a3 t.L.length c3, .bool t.s, .int .i64 0, .int .i64 0, .int .i64 0, .slice a4 0 c4, .bool false, .int .i64 0, .int .i64 0, .int .i64 0, .slice a5 0 c5, .bool false]) rfl rfl rfl HRow.out rfl (by kernel_rfl) ?_)
        | (go_at_call 15; (with_reducible refine (HTo.out _ (Below.refl _ _)).mono ?_); rintro e w5 ⟨rfl, hb5⟩; have D5 := Lib.hid hb5; clear hb5)
        | (refine stAn (B := #[.int .i64 t.T, .int .i64 0, .string ⟨#[]⟩, .slice none 0 0, .slice none 0 0, .bool t.s]) rfl rfl rfl (RowAt.new w5 _ _) rfl rfl rfl rfl ?_; intro w6 r6 o6; have A6 := Lib.hid r6; have D6 := Lib.hid (bgo D5.out (Below.trans (b1 _) (o6.1 : Below w5.heap.size _ w6))); clear r6 o6 D5))
      refine wp_meetY 14 15 79 10 (fun v u wx => ∃ g : Nat, v = .pointer (some ⟨g, 0, none⟩) ∧ u = .int .i64 0 ∧ Hid (RowAt g #[.int .i64 V9, .int .i64 E9, .string ⟨#[]⟩, .slice none 0 0, .slice none 0 0, .bool t.s] wx ∧ Below w6.heap.size w6 wx)) ?_ ?_
      · intro G hG
        have HR6 := Lib.hid (HRow.out.go D6.out)
        refine wp_region_held_drew (S := fun w' => RowAt w2.heap.size #[.int .i64 4, .int .i64 t.S, .int .i64 0, .int .u64 0, .int .i64 0, .int .i64 0, .bool false, .int .i64 0, .int .i64 0, .int .u64 0, .slice a1 0 c1, .bool false, .int .i64 0, .int .u64 0, .slice a2 0 c2, .int .i64 t.S, .int .i64 t.T, .slice a3 t.L.length c3, .bool t.s, .int .i64 0, .int .i64 0, .int .i64 0, .slice a4 0 c4, .bool false, .int .i64 0, .int .i64 0, .int .i64 0, .slice a5 0 c5, .bool false] w') (by kernel_rfl) HR6.out.drew (fun hH0 => ?_)
        refine wpAnyH_take (i := 0) (v := .agg #[.int .i64 4, .int .i64 t.S, .int .i64 0, .int .u64 0, .int .i64 0, .int .i64 0, .bool false, .int .i64 0, .int .i64 0, .int .u64 0, .slice a1 0 c1, .bool false, .int .i64 0, .int .u64 0, .slice a2 0 c2, .int .i64 t.S, .int .i64 t.T, .slice a3 t.L.length c3, .bool t.s, .int .i64 0, .int .i64 0, .int .i64 0, .slice a4 0 c4, .bool false, .int .i64 0, .int .i64 0, .int .i64 0, .slice a5 0 c5, .bool false]) rfl (by kernel_rfl) (by kernel_rfl) (by kernel_rfl) (fun _ _ _ h => h) (Or.inl ⟨by rfl, fun _ hs => run_part rfl rfl hs Tryz.underlying48 rfl infSk (by kernel_rfl)⟩) hH0 ?_
        try simp only [Act.put, List.getElem_toArray, List.getElem_cons_zero, List.getElem_cons_succ, List.setIfInBounds_toArray, List.set_cons_zero, List.set_cons_succ]
        refine wpAnyH_take (i := 1) (v := .int .i64 n) rfl (by kernel_rfl) (by kernel_rfl) (by kernel_rfl) (fun _ _ _ h => h) (Or.inl ⟨by rfl, fun _ _ => run_mv rfl rfl⟩) hH0 ?_
        try simp only [Act.put, List.getElem_toArray, List.getElem_cons_zero, List.getElem_cons_succ, List.setIfInBounds_toArray, List.set_cons_zero, List.set_cons_succ]
        refine wpAnyH_take (i := 2) (v := .int .i64 (n / 16)) rfl (by kernel_rfl) (by kernel_rfl) (by kernel_rfl) (fun _ _ _ h => h) (Or.inl ⟨by rfl, fun ww hSw => by go_simp⟩) hH0 ?_
        try simp only [Act.put, List.getElem_toArray, List.getElem_cons_zero, List.getElem_cons_succ, List.setIfInBounds_toArray, List.set_cons_zero, List.set_cons_succ]
        refine wpAnyH_take (i := 3) (v := .int .i64 c) rfl (by kernel_rfl) (by kernel_rfl) (by kernel_rfl) (fun _ _ _ h => h) (Or.inl ⟨by rfl, fun ww hSw => by go_simp⟩) hH0 ?_
        try simp only [Act.put, List.getElem_toArray, List.getElem_cons_zero, List.getElem_cons_succ, List.setIfInBounds_toArray, List.set_cons_zero, List.set_cons_succ]
        refine wpAnyH_ready (rs := [4, 10]) (by kernel_rfl) (by simp) ?_
        refine AllReadyH.cons rfl (fun K1 hK1 => ?_) (AllReadyH.cons rfl (fun K1 hK1 => ?_) AllReadyH.nil)
        · skip
          (dsimp only [List.getElem_toArray, List.getElem_cons_zero, List.getElem_cons_succ])
          rw [if_pos (by rfl)]
          go_simp
          go_at_call 23
          have HC := HKy.out w6.drew
          (with_reducible refine HC.mono ?_)
          clear HC
          rintro e w8 ⟨rfl, hbk⟩
          have DK := Lib.hid (bgo (below_drew (Below.refl w6.heap.size w6)) hbk)
          refine hK1.out _ _ (HR6.out.go DK.out) (fun hHk => ?_)
          clear hK1 K1
          try simp only [Act.put, List.getElem_toArray, List.getElem_cons_zero, List.getElem_cons_succ, List.setIfInBounds_toArray, List.set_cons_zero, List.set_cons_succ]
          refine wpAnyH_take (i := 5) (v := .agg #[.int .i64 2, .string KY, .int .i64 0, .int .i64 0, .int .i64 0]) rfl (by kernel_rfl) (by kernel_rfl) (by kernel_rfl) (fun _ _ _ h => h) (Or.inl ⟨by rfl, fun ww hSw => by go_simp⟩) hHk ?_
          try simp only [Act.put, List.getElem_toArray, List.getElem_cons_zero, List.getElem_cons_succ, List.setIfInBounds_toArray, List.set_cons_zero, List.set_cons_succ]
          refine wpAnyH_ready (rs := [6, 10]) (by kernel_rfl) (by simp) ?_
          refine AllReadyH.cons rfl (fun K1 hK1 => ?_) (AllReadyH.cons rfl (fun K1 hK1 => ?_) AllReadyH.nil)
          · skip
            (dsimp only [List.getElem_toArray, List.getElem_cons_zero, List.getElem_cons_succ])
            rw [if_pos (by rfl)]
            go_simp
            go_at_call 15
            have HC := HPt.out w8 (bgo D6.out DK.out)
            (with_reducible refine HC.mono ?_)
            clear HC
            rintro e w9 ⟨rfl, hb9⟩
            have D9 := Lib.hid (bgo DK.out hb9)
            refine hK1.out _ _ (HR6.out.go D9.out) (fun hH2 => ?_)
            clear hK1 K1
            try simp only [Act.put, List.getElem_toArray, List.getElem_cons_zero, List.getElem_cons_succ, List.setIfInBounds_toArray, List.set_cons_zero, List.set_cons_succ]
            refine wpAnyH_take (i := 7) (v := .tuple #[.agg #[.int .i64 V9, .int .i64 E9, .string ⟨#[]⟩, .slice none 0 0, .slice none 0 0, .bool t.s], .int .i64 0]) rfl (by kernel_rfl) (by kernel_rfl) (by kernel_rfl) (fun _ _ _ h => h) (Or.inl ⟨by rfl, fun _ _ => run_mv rfl rfl⟩) hH2 ?_
            try simp only [Act.put, List.getElem_toArray, List.getElem_cons_zero, List.getElem_cons_succ, List.setIfInBounds_toArray, List.set_cons_zero, List.set_cons_succ]
            refine wpAnyH_take (i := 8) (v := .agg #[.int .i64 V9, .int .i64 E9, .string ⟨#[]⟩, .slice none 0 0, .slice none 0 0, .bool t.s]) rfl (by kernel_rfl) (by kernel_rfl) (by kernel_rfl) (fun _ _ _ h => h) (Or.inl ⟨by rfl, fun ww hSw => by go_simp⟩) hH2 ?_
            try simp only [Act.put, List.getElem_toArray, List.getElem_cons_zero, List.getElem_cons_succ, List.setIfInBounds_toArray, List.set_cons_zero, List.set_cons_succ]
            refine wpAnyH_take (i := 9) (v := .int .i64 0) rfl (by kernel_rfl) (by kernel_rfl) (by kernel_rfl) (fun _ _ _ h => h) (Or.inl ⟨by rfl, fun ww hSw => by go_simp⟩) hH2 ?_
            try simp only [Act.put, List.getElem_toArray, List.getElem_cons_zero, List.getElem_cons_succ, List.setIfInBounds_toArray, List.set_cons_zero, List.set_cons_succ]
            refine wpAnyH_ready (rs := [10]) (by kernel_rfl) (by simp) ?_
            refine AllReadyH.cons rfl (fun K1 hK1 => ?_) AllReadyH.nil
            (dsimp only [List.getElem_toArray, List.getElem_cons_zero, List.getElem_cons_succ])
            rw [if_pos (by rfl)]
            go_simp
            have DA := Lib.hid (bgo D9.out (b1 (.cells #[.int .i64 0, .int .i64 0, .string ⟨#[]⟩, .slice none 0 0, .slice none 0 0, .bool false] 51)))
            refine hK1.out _ _ (HR6.out.go DA.out) (fun hHa => ?_)
            clear hK1 K1
            try simp only [Act.put, List.getElem_toArray, List.getElem_cons_zero, List.getElem_cons_succ, List.setIfInBounds_toArray, List.set_cons_zero, List.set_cons_succ]
            refine wpAnyH_ready (rs := [11]) (by kernel_rfl) (by simp) ?_
            refine AllReadyH.cons rfl (fun K1 hK1 => ?_) AllReadyH.nil
            show ite _ _ _
            refine step_whole (B := #[.int .i64 V9, .int .i64 E9, .string ⟨#[]⟩, .slice none 0 0, .slice none 0 0, .bool t.s]) rfl rfl rfl (RowAt.new w9 zcAn 51) rfl infAn (all_one rfl) rfl ?_
            intro w11 r11 o11
            have D11 := Lib.hid (DA.out.trans (o11.1.mono D9.out.size))
            refine hK1.out _ _ (HR6.out.go D11.out) (fun hH3 => ?_)
            clear hK1 K1
            try simp only [Act.put, List.getElem_toArray, List.getElem_cons_zero, List.getElem_cons_succ, List.setIfInBounds_toArray, List.set_cons_zero, List.set_cons_succ]
            refine wpAnyH_take (i := 12) (v := .int .i64 0) rfl (by kernel_rfl) (by kernel_rfl) (by kernel_rfl) (fun _ _ _ h => h) (Or.inl ⟨by rfl, fun _ _ => run_as rfl rfl⟩) hH3 ?_
            try simp only [Act.put, List.getElem_toArray, List.getElem_cons_zero, List.getElem_cons_succ, List.setIfInBounds_toArray, List.set_cons_zero, List.set_cons_succ]
            refine wpAnyH_done (by kernel_rfl) ?_ _
            exact hG _ _ _ _ ⟨[_, _, _, _, _, _, _, _, _, _], rfl, rfl⟩ ⟨_, rfl, rfl, Lib.hid ⟨r11, D11.out⟩⟩
          · skip
            (dsimp only [List.getElem_toArray, List.getElem_cons_zero, List.getElem_cons_succ])
            rw [if_pos (by rfl)]
            go_simp
            have DA := Lib.hid (bgo DK.out (b1 (.cells #[.int .i64 0, .int .i64 0, .string ⟨#[]⟩, .slice none 0 0, .slice none 0 0, .bool false] 51)))
            refine hK1.out _ _ (HR6.out.go DA.out) (fun hHa => ?_)
            clear hK1 K1
            try simp only [Act.put, List.getElem_toArray, List.getElem_cons_zero, List.getElem_cons_succ, List.setIfInBounds_toArray, List.set_cons_zero, List.set_cons_succ]
            have NA := Lib.hid (RowAt.new w8 zcAn 51)
            refine wpAnyH_ready (rs := [6]) (by kernel_rfl) (by simp) ?_
            refine AllReadyH.cons rfl (fun K1 hK1 => ?_) AllReadyH.nil
            (dsimp only [List.getElem_toArray, List.getElem_cons_zero, List.getElem_cons_succ])
            rw [if_pos (by rfl)]
            go_simp
            go_at_call 15
            have HC := HPt.out (w8.alloc (.cells #[.int .i64 0, .int .i64 0, .string ⟨#[]⟩, .slice none 0 0, .slice none 0 0, .bool false] 51)) (bgo D6.out DA.out)
            (with_reducible refine HC.mono ?_)
            clear HC
            rintro e w9 ⟨rfl, hb9⟩
            have D9 := Lib.hid (bgo DA.out hb9)
            refine hK1.out _ _ (HR6.out.go D9.out) (fun hH2 => ?_)
            clear hK1 K1
            try simp only [Act.put, List.getElem_toArray, List.getElem_cons_zero, List.getElem_cons_succ, List.setIfInBounds_toArray, List.set_cons_zero, List.set_cons_succ]
            have NB := Lib.hid (NA.out.go hb9)
            refine wpAnyH_take (i := 7) (v := .tuple #[.agg #[.int .i64 V9, .int .i64 E9, .string ⟨#[]⟩, .slice none 0 0, .slice none 0 0, .bool t.s], .int .i64 0]) rfl (by kernel_rfl) (by kernel_rfl) (by kernel_rfl) (fun _ _ _ h => h) (Or.inl ⟨by rfl, fun _ _ => run_mv rfl rfl⟩) hH2 ?_
            try simp only [Act.put, List.getElem_toArray, List.getElem_cons_zero, List.getElem_cons_succ, List.setIfInBounds_toArray, List.set_cons_zero, List.set_cons_succ]
            refine wpAnyH_take (i := 8) (v := .agg #[.int .i64 V9, .int .i64 E9, .string ⟨#[]⟩, .slice none 0 0, .slice none 0 0, .bool t.s]) rfl (by kernel_rfl) (by kernel_rfl) (by kernel_rfl) (fun _ _ _ h => h) (Or.inl ⟨by rfl, fun ww hSw => by go_simp⟩) hH2 ?_
            try simp only [Act.put, List.getElem_toArray, List.getElem_cons_zero, List.getElem_cons_succ, List.setIfInBounds_toArray, List.set_cons_zero, List.set_cons_succ]
            refine wpAnyH_take (i := 9) (v := .int .i64 0) rfl (by kernel_rfl) (by kernel_rfl) (by kernel_rfl) (fun _ _ _ h => h) (Or.inl ⟨by rfl, fun ww hSw => by go_simp⟩) hH2 ?_
            try simp only [Act.put, List.getElem_toArray, List.getElem_cons_zero, List.getElem_cons_succ, List.setIfInBounds_toArray, List.set_cons_zero, List.set_cons_succ]
            refine wpAnyH_ready (rs := [11]) (by kernel_rfl) (by simp) ?_
            refine AllReadyH.cons rfl (fun K1 hK1 => ?_) AllReadyH.nil
            show ite _ _ _
            refine step_whole (B := #[.int .i64 V9, .int .i64 E9, .string ⟨#[]⟩, .slice none 0 0, .slice none 0 0, .bool t.s]) rfl rfl rfl NB.out rfl infAn (all_one rfl) rfl ?_
            intro w11 r11 o11
            have D11 := Lib.hid (D9.out.trans (o11.1.mono DK.out.size))
            refine hK1.out _ _ (HR6.out.go D11.out) (fun hH3 => ?_)
            clear hK1 K1
            try simp only [Act.put, List.getElem_toArray, List.getElem_cons_zero, List.getElem_cons_succ, List.setIfInBounds_toArray, List.set_cons_zero, List.set_cons_succ]
            refine wpAnyH_take (i := 12) (v := .int .i64 0) rfl (by kernel_rfl) (by kernel_rfl) (by kernel_rfl) (fun _ _ _ h => h) (Or.inl ⟨by rfl, fun _ _ => run_as rfl rfl⟩) hH3 ?_
            try simp only [Act.put, List.getElem_toArray, List.getElem_cons_zero, List.getElem_cons_succ, List.setIfInBounds_toArray, List.set_cons_zero, List.set_cons_succ]
            refine wpAnyH_done (by kernel_rfl) ?_ _
            exact hG _ _ _ _ ⟨[_, _, _, _, _, _, _, _, _, _], rfl, rfl⟩ ⟨_, rfl, rfl, Lib.hid ⟨r11, D11.out⟩⟩
        · skip
          (dsimp only [List.getElem_toArray, List.getElem_cons_zero, List.getElem_cons_succ])
          rw [if_pos (by rfl)]
          go_simp
          have DA := Lib.hid (bgo (below_drew (Below.refl w6.heap.size w6)) (b1 (.cells #[.int .i64 0, .int .i64 0, .string ⟨#[]⟩, .slice none 0 0, .slice none 0 0, .bool false] 51)))
          refine hK1.out _ _ (HR6.out.go DA.out) (fun hHa => ?_)
          clear hK1 K1
          try simp only [Act.put, List.getElem_toArray, List.getElem_cons_zero, List.getElem_cons_succ, List.setIfInBounds_toArray, List.set_cons_zero, List.set_cons_succ]
          have NA := Lib.hid (RowAt.new w6.drew zcAn 51)
          refine wpAnyH_ready (rs := [4]) (by kernel_rfl) (by simp) ?_
          refine AllReadyH.cons rfl (fun K1 hK1 => ?_) AllReadyH.nil
          (dsimp only [List.getElem_toArray, List.getElem_cons_zero, List.getElem_cons_succ])
          rw [if_pos (by rfl)]
          go_simp
          go_at_call 23
          have HC := HKy.out (w6.alloc (.cells #[.int .i64 0, .int .i64 0, .string ⟨#[]⟩, .slice none 0 0, .slice none 0 0, .bool false] 51)).drew
          (with_reducible refine HC.mono ?_)
          clear HC
          rintro e w8 ⟨rfl, hbk⟩
          have DK := Lib.hid (bgo DA.out hbk)
          refine hK1.out _ _ (HR6.out.go DK.out) (fun hHk => ?_)
          clear hK1 K1
          try simp only [Act.put, List.getElem_toArray, List.getElem_cons_zero, List.getElem_cons_succ, List.setIfInBounds_toArray, List.set_cons_zero, List.set_cons_succ]
          refine wpAnyH_take (i := 5) (v := .agg #[.int .i64 2, .string KY, .int .i64 0, .int .i64 0, .int .i64 0]) rfl (by kernel_rfl) (by kernel_rfl) (by kernel_rfl) (fun _ _ _ h => h) (Or.inl ⟨by rfl, fun ww hSw => by go_simp⟩) hHk ?_
          try simp only [Act.put, List.getElem_toArray, List.getElem_cons_zero, List.getElem_cons_succ, List.setIfInBounds_toArray, List.set_cons_zero, List.set_cons_succ]
          have NC := Lib.hid (NA.out.go hbk)
          refine wpAnyH_ready (rs := [6]) (by kernel_rfl) (by simp) ?_
          refine AllReadyH.cons rfl (fun K1 hK1 => ?_) AllReadyH.nil
          (dsimp only [List.getElem_toArray, List.getElem_cons_zero, List.getElem_cons_succ])
          rw [if_pos (by rfl)]
          go_simp
          go_at_call 15
          have HC := HPt.out w8 (bgo D6.out DK.out)
          (with_reducible refine HC.mono ?_)
          clear HC
          rintro e w9 ⟨rfl, hb9⟩
          have D9 := Lib.hid (bgo DK.out hb9)
          refine hK1.out _ _ (HR6.out.go D9.out) (fun hH2 => ?_)
          clear hK1 K1
          try simp only [Act.put, List.getElem_toArray, List.getElem_cons_zero, List.getElem_cons_succ, List.setIfInBounds_toArray, List.set_cons_zero, List.set_cons_succ]
          have NB := Lib.hid (NC.out.go hb9)
          refine wpAnyH_take (i := 7) (v := .tuple #[.agg #[.int .i64 V9, .int .i64 E9, .string ⟨#[]⟩, .slice none 0 0, .slice none 0 0, .bool t.s], .int .i64 0]) rfl (by kernel_rfl) (by kernel_rfl) (by kernel_rfl) (fun _ _ _ h => h) (Or.inl ⟨by rfl, fun _ _ => run_mv rfl rfl⟩) hH2 ?_
          try simp only [Act.put, List.getElem_toArray, List.getElem_cons_zero, List.getElem_cons_succ, List.setIfInBounds_toArray, List.set_cons_zero, List.set_cons_succ]
          refine wpAnyH_take (i := 8) (v := .agg #[.int .i64 V9, .int .i64 E9, .string ⟨#[]⟩, .slice none 0 0, .slice none 0 0, .bool t.s]) rfl (by kernel_rfl) (by kernel_rfl) (by kernel_rfl) (fun _ _ _ h => h) (Or.inl ⟨by rfl, fun ww hSw => by go_simp⟩) hH2 ?_
          try simp only [Act.put, List.getElem_toArray, List.getElem_cons_zero, List.getElem_cons_succ, List.setIfInBounds_toArray, List.set_cons_zero, List.set_cons_succ]
          refine wpAnyH_take (i := 9) (v := .int .i64 0) rfl (by kernel_rfl) (by kernel_rfl) (by kernel_rfl) (fun _ _ _ h => h) (Or.inl ⟨by rfl, fun ww hSw => by go_simp⟩) hH2 ?_
          try simp only [Act.put, List.getElem_toArray, List.getElem_cons_zero, List.getElem_cons_succ, List.setIfInBounds_toArray, List.set_cons_zero, List.set_cons_succ]
          refine wpAnyH_ready (rs := [11]) (by kernel_rfl) (by simp) ?_
          refine AllReadyH.cons rfl (fun K1 hK1 => ?_) AllReadyH.nil
          show ite _ _ _
          refine step_whole (B := #[.int .i64 V9, .int .i64 E9, .string ⟨#[]⟩, .slice none 0 0, .slice none 0 0, .bool t.s]) rfl rfl rfl NB.out rfl infAn (all_one rfl) rfl ?_
          intro w11 r11 o11
          have D11 := Lib.hid (D9.out.trans (o11.1.mono (Nat.le_refl _)))
          refine hK1.out _ _ (HR6.out.go D11.out) (fun hH3 => ?_)
          clear hK1 K1
          try simp only [Act.put, List.getElem_toArray, List.getElem_cons_zero, List.getElem_cons_succ, List.setIfInBounds_toArray, List.set_cons_zero, List.set_cons_succ]
          refine wpAnyH_take (i := 12) (v := .int .i64 0) rfl (by kernel_rfl) (by kernel_rfl) (by kernel_rfl) (fun _ _ _ h => h) (Or.inl ⟨by rfl, fun _ _ => run_as rfl rfl⟩) hH3 ?_
          try simp only [Act.put, List.getElem_toArray, List.getElem_cons_zero, List.getElem_cons_succ, List.setIfInBounds_toArray, List.set_cons_zero, List.set_cons_succ]
          refine wpAnyH_done (by kernel_rfl) ?_ _
          exact hG _ _ _ _ ⟨[_, _, _, _, _, _, _, _, _, _], rfl, rfl⟩ ⟨_, rfl, rfl, Lib.hid ⟨r11, D11.out⟩⟩
      · intro a' wz v9 u9 hoff HX9
        obtain ⟨us, hus, rfl⟩ := hoff
        obtain ⟨g9, rfl, rfl, HG9⟩ := HX9
        obtain ⟨hg, hd⟩ := HG9.out
        match us, hus with
        | [y0, y1, y2, y3, y4, y5, y6, y7, y8, y9], _ =>
          simp only [List.set_cons_succ, List.set_cons_zero, List.take_succ_cons, List.take_zero, List.drop_succ_cons, List.drop_zero, List.cons_append, List.nil_append]
          have A9 := Lib.hid hg
          have A12 := Lib.hid (A6.out.go hd)
          have B12 := Lib.hid (bgo HB.out (bgo D6.out hd))
          clear hg hd HG9 A6
          go_wp2_with (first
            | (refine wpList_if (p := true) (v := .int .i64 E9) rfl (fun _ => run_cell rfl rfl A9.out Tryz.underlying3 rfl rfl) ?_)
            | (refine wpList_if (p := true) (v := .int .i64 V9) rfl (fun _ => run_cell rfl rfl A9.out Tryz.underlying3 rfl rfl) ?_)
            | (refine wpList_if (p := true) (v := .int .i64 t.T) rfl (fun _ => run_cell rfl rfl A12.out Tryz.underlying3 rfl rfl) ?_)
            | (go_at_call 9; (with_reducible refine (H9.out _ (T0.out.go B12.out)).mono ?_); rintro e w13 ⟨rfl, hb13⟩; have B13 := Lib.hid (bgo B12.out hb13); clear hb13))
          go_ret
          exact ⟨rfl, B13.out⟩
set_option maxRecDepth 100000 in
set_option maxHeartbeats 4000000 in
theorem points_frq (L : List Int) (v : Value) (n : Int) (W : World) (hv : RdI L v W) (hn : n % 2 = 1) (ht : SupT W) :
    Calls Tryz.prog 7 #[v, .int .i64 n] W fun e w' => e = .returned (.bool true) ∧ Below W.heap.size W w' := by
  have m1 := maskq1 n
  rw [hn] at m1
  have m2 := maskq2 (n / 2)
  have m3 := maskq4 (n / 16)
  have e2 : 0 ≤ n / 2 % 4 ∧ n / 2 % 4 ≤ 3 := by omega
  have e3 : 0 ≤ n / 16 % 16 ∧ n / 16 % 16 ≤ 15 := by omega
  clear hn
  generalize n / 2 % 4 = p at *
  generalize n / 16 % 16 = c at *
  have HSk := Lib.hid (fun (w' : World) (hb : Below W.heap.size W w') => skof_frq (1 + p) L v w' (by omega) (by omega) (hv.below hb))
  have H9 := Lib.hid (fun (w : World) (h : SupT w) => known13_any w h)
  have HKy := Lib.hid (fun w => key_any c w (by omega) (by omega))
  obtain ⟨KY, hKY⟩ : ∃ K, keyS c = K := ⟨_, rfl⟩
  have HKb : Hid (keyB (byt KY) = true ∧ KY.size ≤ maxLen) := Lib.hid (by rw [← hKY]; exact ⟨key_isB c, key_len c⟩)
  rw [hKY] at HKy
  clear hKY
  have T0 := Lib.hid ht
  have E2 := Lib.hid e2
  obtain ⟨a0, cap0, rfl⟩ := hv.shape
  clear hv ht e3
  go_enter Tryz.func7, Tryz.ntmps7
  go_wp2_with (first
    | (refine stPm (A' := #[.int .i64 5, .int .i64 (1 + p), .int .i64 0, .int .u64 0]) rfl rfl rfl (RowAt.new W _ _) rfl rfl (all_one rfl) (show 0 + 4 ≤ 4 by decide) (by kernel_rfl) ?_; intro w1 r1 o1; have P1 := Lib.hid r1; have B1 := Lib.hid (Below.trans (b1 _) (o1.1 : Below W.heap.size _ w1)); clear r1 o1)
    | (refine ldPm (B := #[.int .i64 5, .int .i64 (1 + p), .int .i64 0, .int .u64 0]) rfl rfl rfl P1.out rfl (by kernel_rfl) ?_)
    | (go_at_call 21; (with_reducible refine (HSk.out _ B1.out).mono ?_); rintro e w2 ⟨u, s, rfl, hst, ⟨f, hh, WW, rfl, hs⟩, hb2⟩; have B2 := Lib.hid (bgo B1.out hb2); have S2 := Lib.hid (hst _ (Abv.refl _ _)); have M2 := Lib.hid hs; obtain ⟨a1, c1, a2, c2, a3, c3, a4, c4, a5, c5, rfl, hrr⟩ := S2.out.run; have RR2 := Lib.hid hrr; clear hst hb2 hrr hs)
    | (refine stWh (B := #[.int .i64 5, .int .i64 f.S, .int .i64 0, .int .u64 0, .int .i64 0, .int .i64 0, .bool false, .int .i64 0, .int .i64 0, .int .u64 0, .slice a1 0 c1, .bool false, .int .i64 0, .int .u64 0, .slice a2 0 c2, .int .i64 0, .int .i64 0, .slice a3 0 c3, .bool false, .int .i64 f.S, .int .i64 f.T, .int .i64 f.K, .slice a4 f.L.length c4, .bool f.s, .int .i64 0, .int .i64 0, .int .i64 0, .slice a5 0 c5, .bool false]) rfl rfl rfl (RowAt.new w2 _ _) rfl rfl rfl rfl ?_; intro w3 r3 o3; have D3 := Lib.hid (Below.trans (b1 _) (o3.1 : Below w2.heap.size _ w3)); have R3 := Lib.hid r3; have RR3 := Lib.hid (RR2.out.below D3.out); have B3 := Lib.hid (bgo B2.out D3.out); have T3 := Lib.hid (T0.out.go B3.out); have HEn : Hid (Calls Tryz.prog 18 #[.agg #[.int .i64 5, .int .i64 f.S, .int .i64 0, .int .u64 0, .int .i64 0, .int .i64 0, .bool false, .int .i64 0, .int .i64 0, .int .u64 0, .slice a1 0 c1, .bool false, .int .i64 0, .int .u64 0, .slice a2 0 c2, .int .i64 0, .int .i64 0, .slice a3 0 c3, .bool false, .int .i64 f.S, .int .i64 f.T, .int .i64 f.K, .slice a4 f.L.length c4, .bool f.s, .int .i64 0, .int .i64 0, .int .i64 0, .slice a5 0 c5, .bool false]] w3 fun e w' => ∃ v, e = .returned (.tuple #[v, .int .i64 0]) ∧ RdE (sortE (f.L.map (setE f.K))) v w' ∧ Below w3.heap.size w3 w') := Lib.hid (by have hs := M2.out; exact en_frq f a1 c1 a2 c2 a3 c3 a4 c4 a5 c5 w3 (by have := hs.val.len; have := hs.hS; omega) (by have := hs.val.k0; have := hs.val.k1; omega) RR3.out (wf_fmQ (by have := hs.val.s0; have := hs.val.s1; unfold I64; omega) (by have := hs.val.small; omega)) (val_fm5 hs.val.s0 hs.val.s1 (valQ_of hs.val)) T3.out); clear r3 o3 D3 B2 S2 RR2)
    | (refine ldSk (B := #[.int .i64 5, .int .i64 f.S, .int .i64 0, .int .u64 0, .int .i64 0, .int .i64 0, .bool false, .int .i64 0, .int .i64 0, .int .u64 0, .slice a1 0 c1, .bool false, .int .i64 0, .int .u64 0, .slice a2 0 c2, .int .i64 0, .int .i64 0, .slice a3 0 c3, .bool false, .int .i64 f.S, .int .i64 f.T, .int .i64 f.K, .slice a4 f.L.length c4, .bool f.s, .int .i64 0, .int .i64 0, .int .i64 0, .slice a5 0 c5, .bool false]) rfl rfl rfl R3.out rfl (by kernel_rfl) ?_)
    | (go_at_call 18; (with_reducible refine HEn.out.mono ?_); rintro e w4 ⟨vl, rfl, ho4, hb4⟩; obtain ⟨ab, cb, rfl⟩ := ho4.shape; have HF : Hid (RowAt w2.heap.size #[.int .i64 5, .int .i64 f.S, .int .i64 0, .int .u64 0, .int .i64 0, .int .i64 0, .bool false, .int .i64 0, .int .i64 0, .int .u64 0, .slice a1 0 c1, .bool false, .int .i64 0, .int .u64 0, .slice a2 0 c2, .int .i64 0, .int .i64 0, .slice a3 0 c3, .bool false, .int .i64 f.S, .int .i64 f.T, .int .i64 f.K, .slice a4 f.L.length c4, .bool f.s, .int .i64 0, .int .i64 0, .int .i64 0, .slice a5 0 c5, .bool false] w4 ∧ RowsK (fmQ f) (.slice a1 0 c1) (.slice a2 0 c2) (.slice a3 0 c3) (.slice a4 f.L.length c4) (.slice a5 0 c5) w4 ∧ RdE (sortE (f.L.map (setE f.K))) (.slice ab ((sortE (f.L.map (setE f.K)))).length cb) w4 ∧ Below W.heap.size W w4) := Lib.hid ⟨R3.out.go hb4, RR3.out.below hb4, ho4, bgo B3.out hb4⟩; clear ho4 hb4 R3 RR3 B3 T3 HEn))
  have HLen : Hid (((sortE (f.L.map (setE f.K)))).length ≤ 32) := Lib.hid (by have hs := M2.out; rw [sortE_len, List.length_map]; exact hs.val.small)
  go_loopw [9, 10, 11] (fun i _ _ wr => ∃ j : Nat, i = .int .i64 (j : Int) ∧ j ≤ ((sortE (f.L.map (setE f.K)))).length ∧ Hid (RowAt w2.heap.size #[.int .i64 5, .int .i64 f.S, .int .i64 0, .int .u64 0, .int .i64 0, .int .i64 0, .bool false, .int .i64 0, .int .i64 0, .int .u64 0, .slice a1 0 c1, .bool false, .int .i64 0, .int .u64 0, .slice a2 0 c2, .int .i64 0, .int .i64 0, .slice a3 0 c3, .bool false, .int .i64 f.S, .int .i64 f.T, .int .i64 f.K, .slice a4 f.L.length c4, .bool f.s, .int .i64 0, .int .i64 0, .int .i64 0, .slice a5 0 c5, .bool false] wr ∧ RowsK (fmQ f) (.slice a1 0 c1) (.slice a2 0 c2) (.slice a3 0 c3) (.slice a4 f.L.length c4) (.slice a5 0 c5) wr ∧ RdE (sortE (f.L.map (setE f.K))) (.slice ab ((sortE (f.L.map (setE f.K)))).length cb) wr ∧ Below W.heap.size W wr)) (fun i _ _ _ => ((sortE (f.L.map (setE f.K)))).length - (intOf i).toNat)
  case atStart => exact ⟨0, rfl, Nat.zero_le _, HF⟩
  case round =>
    clear HF
    obtain ⟨j, rfl, hj, HF⟩ := hrel
    obtain ⟨hrow, hrr, hr, hb⟩ := HF.out
    by_cases hlt : j < ((sortE (f.L.map (setE f.K)))).length
    · have hlt2 : (j : Int) < (((sortE (f.L.map (setE f.K)))).length : Int) := by omega
      have hjn2 : ¬ ((sortE (f.L.map (setE f.K)))).length ≤ j := by omega
      have hj32 : (j : Int) < 32 := by have := HLen.out; omega
      have hr0 := hr
      obtain ⟨hok9, a9, c9, he9, _, _, hc9⟩ := hr0
      simp only [Value.slice.injEq, true_and] at he9
      obtain ⟨rfl, rfl⟩ := he9
      obtain ⟨b9, off9, rfl, hb9, hcell9⟩ := hc9 (by omega)
      have HX := Lib.hid (fun (w' : World) (hb' : Below wr.heap.size wr w') => (hcell9 j hlt).below hb' hb9)
      have HAs : Hid (∀ w' : World, Below wr.heap.size wr w' → Calls Tryz.prog 15 #[.agg #[.int .i64 5, .int .i64 f.S, .int .i64 0, .int .u64 0, .int .i64 0, .int .i64 0, .bool false, .int .i64 0, .int .i64 0, .int .u64 0, .slice a1 0 c1, .bool false, .int .i64 0, .int .u64 0, .slice a2 0 c2, .int .i64 0, .int .i64 0, .slice a3 0 c3, .bool false, .int .i64 f.S, .int .i64 f.T, .int .i64 f.K, .slice a4 f.L.length c4, .bool f.s, .int .i64 0, .int .i64 0, .int .i64 0, .slice a5 0 c5, .bool false], .agg #[.int .i64 2, .string (((sortE (f.L.map (setE f.K)))).getD j Ent.z).k, .int .i64 0, .int .i64 0, .int .i64 0]] w' fun e w'' => e = .returned (.tuple #[.agg #[.int .i64 (((sortE (f.L.map (setE f.K)))).getD j Ent.z).c, .int .i64 (((sortE (f.L.map (setE f.K)))).getD j Ent.z).e, .string ⟨#[]⟩, .slice none 0 0, .slice none 0 0, .bool f.s], .int .i64 0]) ∧ Below w'.heap.size w' w'') := Lib.hid (fun w' hb' => by
        have hs := M2.out
        have := as2_frq f a1 c1 a2 c2 a3 c3 a4 c4 a5 c5 (((sortE (f.L.map (setE f.K)))).getD j Ent.z).k hs.val (pt_frq hs hlt).2 (hok9.at_ j).1 w' (hrr.below hb') (wf_fmQ (by have := hs.val.s0; have := hs.val.s1; unfold I64; omega) (by have := hs.val.small; omega)) (val_fm5 hs.val.s0 hs.val.s1 (valQ_of hs.val)) (T0.out.go (bgo hb hb'))
        rw [(pt_frq hs hlt).1.1] at this
        rw [← (pt_frq hs hlt).1.2]
        exact this)
      have HRow := Lib.hid hrow
      have HRr := Lib.hid hrr
      have HR := Lib.hid hr
      have HB := Lib.hid hb
      have HB9 := Lib.hid hb9
      clear hr hb hrow hrr hcell9 hc9 hb9 HF hj hok9
      generalize ((sortE (f.L.map (setE f.K)))).getD j Ent.z = X at HX HAs
      go_upto_region 9 with (fail)
      refine wp_meetY 10 11 40 11 (fun v u wx => ∃ g : Nat, v = .pointer (some ⟨g, 0, none⟩) ∧ u = .int .i64 0 ∧ Hid (RowAt g #[.int .i64 X.c, .int .i64 X.e, .string ⟨#[]⟩, .slice none 0 0, .slice none 0 0, .bool f.s] wx ∧ Below wr.heap.size wr wx)) ?_ ?_
      · intro G hG
        refine wp_region_held_drew (S := fun w' => RowAt w2.heap.size #[.int .i64 5, .int .i64 f.S, .int .i64 0, .int .u64 0, .int .i64 0, .int .i64 0, .bool false, .int .i64 0, .int .i64 0, .int .u64 0, .slice a1 0 c1, .bool false, .int .i64 0, .int .u64 0, .slice a2 0 c2, .int .i64 0, .int .i64 0, .slice a3 0 c3, .bool false, .int .i64 f.S, .int .i64 f.T, .int .i64 f.K, .slice a4 f.L.length c4, .bool f.s, .int .i64 0, .int .i64 0, .int .i64 0, .slice a5 0 c5, .bool false] w' ∧ w'.cell? ⟨b9, off9 + j * 3, none⟩ = some (.string X.k)) (by kernel_rfl) ⟨HRow.out.drew, (HX.out _ (Below.refl _ _)).1⟩ (fun hH0 => ?_)
        refine wpAnyH_take (i := 0) (v := .agg #[.int .i64 5, .int .i64 f.S, .int .i64 0, .int .u64 0, .int .i64 0, .int .i64 0, .bool false, .int .i64 0, .int .i64 0, .int .u64 0, .slice a1 0 c1, .bool false, .int .i64 0, .int .u64 0, .slice a2 0 c2, .int .i64 0, .int .i64 0, .slice a3 0 c3, .bool false, .int .i64 f.S, .int .i64 f.T, .int .i64 f.K, .slice a4 f.L.length c4, .bool f.s, .int .i64 0, .int .i64 0, .int .i64 0, .slice a5 0 c5, .bool false]) rfl (by kernel_rfl) (by kernel_rfl) (by kernel_rfl) (fun _ _ _ h => h) (Or.inl ⟨by rfl, fun _ hs => run_part rfl rfl hs.1 Tryz.underlying48 rfl infSk (by kernel_rfl)⟩) hH0 ?_
        try simp only [Act.put, List.getElem_toArray, List.getElem_cons_zero, List.getElem_cons_succ, List.setIfInBounds_toArray, List.set_cons_zero, List.set_cons_succ]
        refine wpAnyH_take (i := 1) (v := .slice (some ⟨b9, off9, none⟩) ((sortE (f.L.map (setE f.K)))).length cb) rfl (by kernel_rfl) (by kernel_rfl) (by kernel_rfl) (fun _ _ _ h => h) (Or.inl ⟨by rfl, fun _ _ => run_mv rfl rfl⟩) hH0 ?_
        try simp only [Act.put, List.getElem_toArray, List.getElem_cons_zero, List.getElem_cons_succ, List.setIfInBounds_toArray, List.set_cons_zero, List.set_cons_succ]
        refine wpAnyH_take (i := 2) (v := .int .i64 (j : Int)) rfl (by kernel_rfl) (by kernel_rfl) (by kernel_rfl) (fun _ _ _ h => h) (Or.inl ⟨by rfl, fun _ _ => run_mv rfl rfl⟩) hH0 ?_
        try simp only [Act.put, List.getElem_toArray, List.getElem_cons_zero, List.getElem_cons_succ, List.setIfInBounds_toArray, List.set_cons_zero, List.set_cons_succ]
        refine wpAnyH_take (i := 3) (v := .pointer (some ⟨b9, off9 + j * 3, none⟩)) rfl (by kernel_rfl) (by kernel_rfl) (by kernel_rfl) (fun _ _ _ h => h) (Or.inl ⟨by rfl, fun ww hSw => by go_simp⟩) hH0 ?_
        try simp only [Act.put, List.getElem_toArray, List.getElem_cons_zero, List.getElem_cons_succ, List.setIfInBounds_toArray, List.set_cons_zero, List.set_cons_succ]
        refine wpAnyH_take (i := 4) (v := .pointer (some ⟨b9, off9 + j * 3, none⟩)) rfl (by kernel_rfl) (by kernel_rfl) (by kernel_rfl) (fun _ _ _ h => h) (Or.inl ⟨by rfl, fun ww hSw => by go_simp⟩) hH0 ?_
        try simp only [Act.put, List.getElem_toArray, List.getElem_cons_zero, List.getElem_cons_succ, List.setIfInBounds_toArray, List.set_cons_zero, List.set_cons_succ]
        refine wpAnyH_take (i := 5) (v := .string X.k) rfl (by kernel_rfl) (by kernel_rfl) (by kernel_rfl) (fun _ _ _ h => h) (Or.inl ⟨by rfl, fun ww hSw => by have hx := hSw.2; clear hSw; go_simp⟩) hH0 ?_
        try simp only [Act.put, List.getElem_toArray, List.getElem_cons_zero, List.getElem_cons_succ, List.setIfInBounds_toArray, List.set_cons_zero, List.set_cons_succ]
        refine wpAnyH_take (i := 6) (v := .agg #[.int .i64 2, .string X.k, .int .i64 0, .int .i64 0, .int .i64 0]) rfl (by kernel_rfl) (by kernel_rfl) (by kernel_rfl) (fun _ _ _ h => h) (Or.inl ⟨by rfl, fun ww hSw => by go_simp⟩) hH0 ?_
        try simp only [Act.put, List.getElem_toArray, List.getElem_cons_zero, List.getElem_cons_succ, List.setIfInBounds_toArray, List.set_cons_zero, List.set_cons_succ]
        refine wpAnyH_ready (rs := [7, 11]) (by kernel_rfl) (by simp) ?_
        refine AllReadyH.cons rfl (fun K1 hK1 => ?_) (AllReadyH.cons rfl (fun K1 hK1 => ?_) AllReadyH.nil)
        · skip
          (dsimp only [List.getElem_toArray, List.getElem_cons_zero, List.getElem_cons_succ])
          rw [if_pos (by rfl)]
          go_simp
          go_at_call 15
          have HC := HAs.out wr.drew (below_drew (Below.refl wr.heap.size wr))
          (with_reducible refine HC.mono ?_)
          clear HC
          rintro e w5 ⟨rfl, hb5⟩
          have D5 := Lib.hid (bgo (below_drew (Below.refl wr.heap.size wr)) hb5)
          refine hK1.out _ _ ⟨HRow.out.go D5.out, (HX.out _ D5.out).1⟩ (fun hH2 => ?_)
          clear hK1 K1
          try simp only [Act.put, List.getElem_toArray, List.getElem_cons_zero, List.getElem_cons_succ, List.setIfInBounds_toArray, List.set_cons_zero, List.set_cons_succ]
          refine wpAnyH_take (i := 8) (v := .tuple #[.agg #[.int .i64 X.c, .int .i64 X.e, .string ⟨#[]⟩, .slice none 0 0, .slice none 0 0, .bool f.s], .int .i64 0]) rfl (by kernel_rfl) (by kernel_rfl) (by kernel_rfl) (fun _ _ _ h => h) (Or.inl ⟨by rfl, fun _ _ => run_mv rfl rfl⟩) hH2 ?_
          try simp only [Act.put, List.getElem_toArray, List.getElem_cons_zero, List.getElem_cons_succ, List.setIfInBounds_toArray, List.set_cons_zero, List.set_cons_succ]
          refine wpAnyH_take (i := 9) (v := .agg #[.int .i64 X.c, .int .i64 X.e, .string ⟨#[]⟩, .slice none 0 0, .slice none 0 0, .bool f.s]) rfl (by kernel_rfl) (by kernel_rfl) (by kernel_rfl) (fun _ _ _ h => h) (Or.inl ⟨by rfl, fun ww hSw => by go_simp⟩) hH2 ?_
          try simp only [Act.put, List.getElem_toArray, List.getElem_cons_zero, List.getElem_cons_succ, List.setIfInBounds_toArray, List.set_cons_zero, List.set_cons_succ]
          refine wpAnyH_take (i := 10) (v := .int .i64 0) rfl (by kernel_rfl) (by kernel_rfl) (by kernel_rfl) (fun _ _ _ h => h) (Or.inl ⟨by rfl, fun ww hSw => by go_simp⟩) hH2 ?_
          try simp only [Act.put, List.getElem_toArray, List.getElem_cons_zero, List.getElem_cons_succ, List.setIfInBounds_toArray, List.set_cons_zero, List.set_cons_succ]
          refine wpAnyH_ready (rs := [11]) (by kernel_rfl) (by simp) ?_
          refine AllReadyH.cons rfl (fun K1 hK1 => ?_) AllReadyH.nil
          (dsimp only [List.getElem_toArray, List.getElem_cons_zero, List.getElem_cons_succ])
          rw [if_pos (by rfl)]
          go_simp
          have D6 := Lib.hid (bgo D5.out (b1 (.cells zcAn 51)))
          refine hK1.out _ _ ⟨HRow.out.go D6.out, (HX.out _ D6.out).1⟩ (fun hH4 => ?_)
          clear hK1 K1
          try simp only [Act.put, List.getElem_toArray, List.getElem_cons_zero, List.getElem_cons_succ, List.setIfInBounds_toArray, List.set_cons_zero, List.set_cons_succ]
          refine wpAnyH_ready (rs := [12]) (by kernel_rfl) (by simp) ?_
          refine AllReadyH.cons rfl (fun K1 hK1 => ?_) AllReadyH.nil
          show ite _ _ _
          refine step_whole (B := #[.int .i64 X.c, .int .i64 X.e, .string ⟨#[]⟩, .slice none 0 0, .slice none 0 0, .bool f.s]) rfl rfl rfl (RowAt.new w5 zcAn 51) rfl infAn (all_one rfl) rfl ?_
          intro w7 r7 o7
          have D7 := Lib.hid (D6.out.trans (o7.1.mono D5.out.size))
          refine hK1.out _ _ ⟨HRow.out.go D7.out, (HX.out _ D7.out).1⟩ (fun hH3 => ?_)
          clear hK1 K1
          try simp only [Act.put, List.getElem_toArray, List.getElem_cons_zero, List.getElem_cons_succ, List.setIfInBounds_toArray, List.set_cons_zero, List.set_cons_succ]
          refine wpAnyH_take (i := 13) (v := .int .i64 0) rfl (by kernel_rfl) (by kernel_rfl) (by kernel_rfl) (fun _ _ _ h => h) (Or.inl ⟨by rfl, fun _ _ => run_as rfl rfl⟩) hH3 ?_
          try simp only [Act.put, List.getElem_toArray, List.getElem_cons_zero, List.getElem_cons_succ, List.setIfInBounds_toArray, List.set_cons_zero, List.set_cons_succ]
          refine wpAnyH_done (by kernel_rfl) ?_ _
          exact hG _ _ _ _ ⟨[_, _, _, _, _, _, _, _, _, _, _], rfl, rfl⟩ ⟨_, rfl, rfl, Lib.hid ⟨r7, D7.out⟩⟩
        · skip
          (dsimp only [List.getElem_toArray, List.getElem_cons_zero, List.getElem_cons_succ])
          rw [if_pos (by rfl)]
          go_simp
          have D4 := Lib.hid (bgo (below_drew (Below.refl wr.heap.size wr)) (b1 (.cells zcAn 51)))
          refine hK1.out _ _ ⟨HRow.out.go D4.out, (HX.out _ D4.out).1⟩ (fun hH4 => ?_)
          clear hK1 K1
          try simp only [Act.put, List.getElem_toArray, List.getElem_cons_zero, List.getElem_cons_succ, List.setIfInBounds_toArray, List.set_cons_zero, List.set_cons_succ]
          refine wpAnyH_ready (rs := [7]) (by kernel_rfl) (by simp) ?_
          refine AllReadyH.cons rfl (fun K1 hK1 => ?_) AllReadyH.nil
          (dsimp only [List.getElem_toArray, List.getElem_cons_zero, List.getElem_cons_succ])
          rw [if_pos (by rfl)]
          go_simp
          go_at_call 15
          have HC := HAs.out (wr.alloc (.cells #[.int .i64 0, .int .i64 0, .string ⟨#[]⟩, .slice none 0 0, .slice none 0 0, .bool false] 51)).drew D4.out
          (with_reducible refine HC.mono ?_)
          clear HC
          rintro e w5 ⟨rfl, hb5⟩
          have D5 := Lib.hid (bgo D4.out hb5)
          refine hK1.out _ _ ⟨HRow.out.go D5.out, (HX.out _ D5.out).1⟩ (fun hH2 => ?_)
          clear hK1 K1
          try simp only [Act.put, List.getElem_toArray, List.getElem_cons_zero, List.getElem_cons_succ, List.setIfInBounds_toArray, List.set_cons_zero, List.set_cons_succ]
          have N5 := Lib.hid ((RowAt.new wr.drew zcAn 51).go hb5)
          refine wpAnyH_take (i := 8) (v := .tuple #[.agg #[.int .i64 X.c, .int .i64 X.e, .string ⟨#[]⟩, .slice none 0 0, .slice none 0 0, .bool f.s], .int .i64 0]) rfl (by kernel_rfl) (by kernel_rfl) (by kernel_rfl) (fun _ _ _ h => h) (Or.inl ⟨by rfl, fun _ _ => run_mv rfl rfl⟩) hH2 ?_
          try simp only [Act.put, List.getElem_toArray, List.getElem_cons_zero, List.getElem_cons_succ, List.setIfInBounds_toArray, List.set_cons_zero, List.set_cons_succ]
          refine wpAnyH_take (i := 9) (v := .agg #[.int .i64 X.c, .int .i64 X.e, .string ⟨#[]⟩, .slice none 0 0, .slice none 0 0, .bool f.s]) rfl (by kernel_rfl) (by kernel_rfl) (by kernel_rfl) (fun _ _ _ h => h) (Or.inl ⟨by rfl, fun ww hSw => by go_simp⟩) hH2 ?_
          try simp only [Act.put, List.getElem_toArray, List.getElem_cons_zero, List.getElem_cons_succ, List.setIfInBounds_toArray, List.set_cons_zero, List.set_cons_succ]
          refine wpAnyH_take (i := 10) (v := .int .i64 0) rfl (by kernel_rfl) (by kernel_rfl) (by kernel_rfl) (fun _ _ _ h => h) (Or.inl ⟨by rfl, fun ww hSw => by go_simp⟩) hH2 ?_
          try simp only [Act.put, List.getElem_toArray, List.getElem_cons_zero, List.getElem_cons_succ, List.setIfInBounds_toArray, List.set_cons_zero, List.set_cons_succ]
          refine wpAnyH_ready (rs := [12]) (by kernel_rfl) (by simp) ?_
          refine AllReadyH.cons rfl (fun K1 hK1 => ?_) AllReadyH.nil
          show ite _ _ _
          refine step_whole (B := #[.int .i64 X.c, .int .i64 X.e, .string ⟨#[]⟩, .slice none 0 0, .slice none 0 0, .bool f.s]) rfl rfl rfl N5.out rfl infAn (all_one rfl) rfl ?_
          intro w7 r7 o7
          have D7 := Lib.hid (D5.out.trans (o7.1.mono (Nat.le_refl _)))
          refine hK1.out _ _ ⟨HRow.out.go D7.out, (HX.out _ D7.out).1⟩ (fun hH3 => ?_)
          clear hK1 K1
          try simp only [Act.put, List.getElem_toArray, List.getElem_cons_zero, List.getElem_cons_succ, List.setIfInBounds_toArray, List.set_cons_zero, List.set_cons_succ]
          refine wpAnyH_take (i := 13) (v := .int .i64 0) rfl (by kernel_rfl) (by kernel_rfl) (by kernel_rfl) (fun _ _ _ h => h) (Or.inl ⟨by rfl, fun _ _ => run_as rfl rfl⟩) hH3 ?_
          try simp only [Act.put, List.getElem_toArray, List.getElem_cons_zero, List.getElem_cons_succ, List.setIfInBounds_toArray, List.set_cons_zero, List.set_cons_succ]
          refine wpAnyH_done (by kernel_rfl) ?_ _
          exact hG _ _ _ _ ⟨[_, _, _, _, _, _, _, _, _, _, _], rfl, rfl⟩ ⟨_, rfl, rfl, Lib.hid ⟨r7, D7.out⟩⟩
      · intro a' wz v9 u9 hoff HX9
        obtain ⟨us, hus, rfl⟩ := hoff
        obtain ⟨g9, rfl, rfl, HG9⟩ := HX9
        obtain ⟨hg, hd⟩ := HG9.out
        match us, hus with
        | [y0, y1, y2, y3, y4, y5, y6, y7, y8, y9, y10], _ =>
          simp only [List.set_cons_succ, List.set_cons_zero, List.take_succ_cons, List.take_zero, List.drop_succ_cons, List.drop_zero, List.cons_append, List.nil_append]
          have A9 := Lib.hid hg
          have D9 := Lib.hid hd
          have HX2 := Lib.hid (fun (w' : World) (hb' : Below wz.heap.size wz w') => HX.out w' (bgo hd hb'))
          clear hg hd HG9 HX HAs
          go_upto_region 10 with (fail)
          rename_i K3 hK3
          refine wp_region_quiet (C := fun w' => Below wz.heap.size wz w') (by kernel_rfl) (by kernel_rfl) ⟨rfl, rfl, rfl, Nat.le_refl _, fun _ _ => rfl⟩ ?_
          refine wpQuiet_do (v := .int .i64 0) rfl (fun w' hc => quiet_value (run_mv rfl rfl)) ?_
          try simp only [Act.put, List.getElem_toArray, List.getElem_cons_zero, List.getElem_cons_succ, List.setIfInBounds_toArray, List.set_cons_zero, List.set_cons_succ]
          refine wpQuiet_do (v := .bool false) rfl (fun w' hc => quiet_value (neEr0 rfl rfl)) ?_
          try simp only [Act.put, List.getElem_toArray, List.getElem_cons_zero, List.getElem_cons_succ, List.setIfInBounds_toArray, List.set_cons_zero, List.set_cons_succ]
          refine wpQuiet_do (v := .bool false) rfl (fun w' hc => quiet_value (run_mv rfl rfl)) ?_
          try simp only [Act.put, List.getElem_toArray, List.getElem_cons_zero, List.getElem_cons_succ, List.setIfInBounds_toArray, List.set_cons_zero, List.set_cons_succ]
          refine wpQuiet_if (p := true) (v := .pointer (some ⟨g9, 0, none⟩)) rfl (fun _ w' hc => quiet_value (by go_simp)) ?_
          try simp only [Act.put, List.getElem_toArray, List.getElem_cons_zero, List.getElem_cons_succ, List.setIfInBounds_toArray, List.set_cons_zero, List.set_cons_succ]
          refine wpQuiet_if (p := true) (v := .int .i64 X.c) rfl (fun _ w' hc => quiet_value (run_cell rfl rfl (A9.out.go hc) Tryz.underlying3 rfl rfl)) ?_
          try simp only [Act.put, List.getElem_toArray, List.getElem_cons_zero, List.getElem_cons_succ, List.setIfInBounds_toArray, List.set_cons_zero, List.set_cons_succ]
          refine wpQuiet_if (p := true) (v := .slice (some ⟨b9, off9, none⟩) ((sortE (f.L.map (setE f.K)))).length cb) rfl (fun _ w' hc => quiet_value (run_mv rfl rfl)) ?_
          try simp only [Act.put, List.getElem_toArray, List.getElem_cons_zero, List.getElem_cons_succ, List.setIfInBounds_toArray, List.set_cons_zero, List.set_cons_succ]
          refine wpQuiet_if (p := true) (v := .int .i64 (j : Int)) rfl (fun _ w' hc => quiet_value (run_mv rfl rfl)) ?_
          try simp only [Act.put, List.getElem_toArray, List.getElem_cons_zero, List.getElem_cons_succ, List.setIfInBounds_toArray, List.set_cons_zero, List.set_cons_succ]
          refine wpQuiet_if (p := true) (v := .pointer (some ⟨b9, off9 + j * 3, none⟩)) rfl (fun _ w' hc => quiet_value (by go_simp)) ?_
          try simp only [Act.put, List.getElem_toArray, List.getElem_cons_zero, List.getElem_cons_succ, List.setIfInBounds_toArray, List.set_cons_zero, List.set_cons_succ]
          refine wpQuiet_if (p := true) (v := .pointer (some ⟨b9, off9 + j * 3 + 1, none⟩)) rfl (fun _ w' hc => quiet_value (by go_simp)) ?_
          try simp only [Act.put, List.getElem_toArray, List.getElem_cons_zero, List.getElem_cons_succ, List.setIfInBounds_toArray, List.set_cons_zero, List.set_cons_succ]
          refine wpQuiet_if (p := true) (v := .int .i64 X.c) rfl (fun _ w' hc => quiet_value (by obtain ⟨p0, p1, p2⟩ := HX2.out w' hc; clear HX2; go_simp)) ?_
          try simp only [Act.put, List.getElem_toArray, List.getElem_cons_zero, List.getElem_cons_succ, List.setIfInBounds_toArray, List.set_cons_zero, List.set_cons_succ]
          refine wpQuiet_if (p := true) (v := .bool false) rfl (fun _ w' hc => quiet_value (by go_simp)) ?_
          try simp only [Act.put, List.getElem_toArray, List.getElem_cons_zero, List.getElem_cons_succ, List.setIfInBounds_toArray, List.set_cons_zero, List.set_cons_succ]
          refine wpQuiet_do (v := .bool false) rfl (fun w' hc => quiet_value (run_pkF rfl rfl rfl)) ?_
          try simp only [Act.put, List.getElem_toArray, List.getElem_cons_zero, List.getElem_cons_succ, List.setIfInBounds_toArray, List.set_cons_zero, List.set_cons_succ]
          refine wpQuiet_do (v := .bool false) rfl (fun w' hc => quiet_value (run_mv rfl rfl)) ?_
          try simp only [Act.put, List.getElem_toArray, List.getElem_cons_zero, List.getElem_cons_succ, List.setIfInBounds_toArray, List.set_cons_zero, List.set_cons_succ]
          refine wpQuiet_if (p := true) (v := .pointer (some ⟨g9, 1, none⟩)) rfl (fun _ w' hc => quiet_value (by go_simp)) ?_
          try simp only [Act.put, List.getElem_toArray, List.getElem_cons_zero, List.getElem_cons_succ, List.setIfInBounds_toArray, List.set_cons_zero, List.set_cons_succ]
          refine wpQuiet_if (p := true) (v := .int .i64 X.e) rfl (fun _ w' hc => quiet_value (run_cell rfl rfl (A9.out.go hc) Tryz.underlying3 rfl rfl)) ?_
          try simp only [Act.put, List.getElem_toArray, List.getElem_cons_zero, List.getElem_cons_succ, List.setIfInBounds_toArray, List.set_cons_zero, List.set_cons_succ]
          refine wpQuiet_if (p := true) (v := .slice (some ⟨b9, off9, none⟩) ((sortE (f.L.map (setE f.K)))).length cb) rfl (fun _ w' hc => quiet_value (run_mv rfl rfl)) ?_
          try simp only [Act.put, List.getElem_toArray, List.getElem_cons_zero, List.getElem_cons_succ, List.setIfInBounds_toArray, List.set_cons_zero, List.set_cons_succ]
          refine wpQuiet_if (p := true) (v := .int .i64 (j : Int)) rfl (fun _ w' hc => quiet_value (run_mv rfl rfl)) ?_
          try simp only [Act.put, List.getElem_toArray, List.getElem_cons_zero, List.getElem_cons_succ, List.setIfInBounds_toArray, List.set_cons_zero, List.set_cons_succ]
          refine wpQuiet_if (p := true) (v := .pointer (some ⟨b9, off9 + j * 3, none⟩)) rfl (fun _ w' hc => quiet_value (by go_simp)) ?_
          try simp only [Act.put, List.getElem_toArray, List.getElem_cons_zero, List.getElem_cons_succ, List.setIfInBounds_toArray, List.set_cons_zero, List.set_cons_succ]
          refine wpQuiet_if (p := true) (v := .pointer (some ⟨b9, off9 + j * 3 + 2, none⟩)) rfl (fun _ w' hc => quiet_value (by go_simp)) ?_
          try simp only [Act.put, List.getElem_toArray, List.getElem_cons_zero, List.getElem_cons_succ, List.setIfInBounds_toArray, List.set_cons_zero, List.set_cons_succ]
          refine wpQuiet_if (p := true) (v := .int .i64 X.e) rfl (fun _ w' hc => quiet_value (by obtain ⟨p0, p1, p2⟩ := HX2.out w' hc; clear HX2; go_simp)) ?_
          try simp only [Act.put, List.getElem_toArray, List.getElem_cons_zero, List.getElem_cons_succ, List.setIfInBounds_toArray, List.set_cons_zero, List.set_cons_succ]
          refine wpQuiet_if (p := true) (v := .bool false) rfl (fun _ w' hc => quiet_value (by go_simp)) ?_
          try simp only [Act.put, List.getElem_toArray, List.getElem_cons_zero, List.getElem_cons_succ, List.setIfInBounds_toArray, List.set_cons_zero, List.set_cons_succ]
          refine wpQuiet_do (v := .bool false) rfl (fun w' hc => quiet_value (run_pkF rfl rfl rfl)) ?_
          try simp only [Act.put, List.getElem_toArray, List.getElem_cons_zero, List.getElem_cons_succ, List.setIfInBounds_toArray, List.set_cons_zero, List.set_cons_succ]
          refine wpQuiet_nil ?_
          intro w8 hw8
          have D8 := Lib.hid (bgo D9.out hw8)
          have HF8 : Hid (RowAt w2.heap.size #[.int .i64 5, .int .i64 f.S, .int .i64 0, .int .u64 0, .int .i64 0, .int .i64 0, .bool false, .int .i64 0, .int .i64 0, .int .u64 0, .slice a1 0 c1, .bool false, .int .i64 0, .int .u64 0, .slice a2 0 c2, .int .i64 0, .int .i64 0, .slice a3 0 c3, .bool false, .int .i64 f.S, .int .i64 f.T, .int .i64 f.K, .slice a4 f.L.length c4, .bool f.s, .int .i64 0, .int .i64 0, .int .i64 0, .slice a5 0 c5, .bool false] w8 ∧ RowsK (fmQ f) (.slice a1 0 c1) (.slice a2 0 c2) (.slice a3 0 c3) (.slice a4 f.L.length c4) (.slice a5 0 c5) w8 ∧ RdE (sortE (f.L.map (setE f.K))) (.slice (some ⟨b9, off9, none⟩) ((sortE (f.L.map (setE f.K)))).length cb) w8 ∧ Below W.heap.size W w8) := Lib.hid ⟨HRow.out.go D8.out, HRr.out.below D8.out, HR.out.below D8.out, bgo HB.out D8.out⟩
          refine hK3 _ _ ?_
          clear hK3 hw8 HX2 A9 D9 D8
          try simp only [Act.put, List.getElem_toArray, List.getElem_cons_zero, List.getElem_cons_succ, List.setIfInBounds_toArray, List.set_cons_zero, List.set_cons_succ]
          go_wp2
          go_roundw
          case rel => exact ⟨j + 1, by go_num, by omega, HF8⟩
          case measure => simp [intOf]; omega
    · obtain rfl : j = ((sortE (f.L.map (setE f.K)))).length := by omega
      have hs := M2.out
      have hbd := pt_frq_bd hs KY
      obtain ⟨hbd1, hbd2⟩ := hbd
      have HTo : Hid (∀ w' : World, Below wr.heap.size wr w' → Calls Tryz.prog 15 #[.agg #[.int .i64 5, .int .i64 f.S, .int .i64 0, .int .u64 0, .int .i64 0, .int .i64 0, .bool false, .int .i64 0, .int .i64 0, .int .u64 0, .slice a1 0 c1, .bool false, .int .i64 0, .int .u64 0, .slice a2 0 c2, .int .i64 0, .int .i64 0, .slice a3 0 c3, .bool false, .int .i64 f.S, .int .i64 f.T, .int .i64 f.K, .slice a4 f.L.length c4, .bool f.s, .int .i64 0, .int .i64 0, .int .i64 0, .slice a5 0 c5, .bool false], .agg #[.int .i64 1, .string ⟨#[]⟩, .int .i64 0, .int .i64 0, .int .i64 0]] w' fun e w'' => e = .returned (.tuple #[.agg #[.int .i64 f.T, .int .i64 0, .string ⟨#[]⟩, .slice none 0 0, .slice none 0 0, .bool f.s], .int .i64 0]) ∧ Below w'.heap.size w' w'') := Lib.hid (fun (w' : World) (hb' : Below wr.heap.size wr w') => as1_frq f a1 c1 a2 c2 a3 c3 a4 c4 a5 c5 w' (hrr.below hb') (wf_fmQ (by have := hs.val.s0; have := hs.val.s1; unfold I64; omega) (by have := hs.val.small; omega)) (val_fm5 hs.val.s0 hs.val.s1 (valQ_of hs.val)) (T0.out.go (bgo hb hb')))
      have HPt : Hid (∀ w' : World, Below wr.heap.size wr w' → Calls Tryz.prog 15 #[.agg #[.int .i64 5, .int .i64 f.S, .int .i64 0, .int .u64 0, .int .i64 0, .int .i64 0, .bool false, .int .i64 0, .int .i64 0, .int .u64 0, .slice a1 0 c1, .bool false, .int .i64 0, .int .u64 0, .slice a2 0 c2, .int .i64 0, .int .i64 0, .slice a3 0 c3, .bool false, .int .i64 f.S, .int .i64 f.T, .int .i64 f.K, .slice a4 f.L.length c4, .bool f.s, .int .i64 0, .int .i64 0, .int .i64 0, .slice a5 0 c5, .bool false], .agg #[.int .i64 2, .string KY, .int .i64 0, .int .i64 0, .int .i64 0]] w' fun e w'' => e = .returned (.tuple #[.agg #[.int .i64 (cntK_2 f.L KY), .int .i64 f.K, .string ⟨#[]⟩, .slice none 0 0, .slice none 0 0, .bool f.s], .int .i64 0]) ∧ Below w'.heap.size w' w'') := Lib.hid (fun (w' : World) (hb' : Below wr.heap.size wr w') => as2_frq f a1 c1 a2 c2 a3 c3 a4 c4 a5 c5 KY hs.val HKb.out.1 HKb.out.2 w' (hrr.below hb') (wf_fmQ (by have := hs.val.s0; have := hs.val.s1; unfold I64; omega) (by have := hs.val.small; omega)) (val_fm5 hs.val.s0 hs.val.s1 (valQ_of hs.val)) (T0.out.go (bgo hb hb')))
      have HRow := Lib.hid hrow
      have HB := Lib.hid hb
      clear hs hrow hrr hr hb HF hj
      generalize cntK_2 f.L KY = V9 at *
      skip
      have hlt2 : ¬ (((sortE (f.L.map (setE f.K)))).length : Int) < (((sortE (f.L.map (setE f.K)))).length : Int) := by omega
      go_upto_region 13 with (first
        | (refine ldSk (B := #[.int .i64 5, .int .i64 f.S, .int .i64 0, .int .u64 0, .int .i64 0, .int .i64 0, .bool false, .int .i64 0, .int .i64 0, .int .u64 0, .slice a1 0 c1, .bool false, .int .i64 0, .int .u64 0, .slice a2 0 c2, .int .i64 0, .int .i64 0, .slice a3 0 c3, .bool false, .int .i64 f.S, .int .i64 f.T, .int .i64 f.K, .slice a4 f.L.length c4, .bool f.s, .int .i64 0, .int .i64 0, .int .i64 0, .slice a5 0 c5, .bool false]) rfl rfl rfl HRow.out rfl (by kernel_rfl) ?_)
        | (go_at_call 15; (with_reducible refine (HTo.out _ (Below.refl _ _)).mono ?_); rintro e w5 ⟨rfl, hb5⟩; have D5 := Lib.hid hb5; clear hb5)
        | (refine stAn (B := #[.int .i64 f.T, .int .i64 0, .string ⟨#[]⟩, .slice none 0 0, .slice none 0 0, .bool f.s]) rfl rfl rfl (RowAt.new w5 _ _) rfl rfl rfl rfl ?_; intro w6 r6 o6; have A6 := Lib.hid r6; have D6 := Lib.hid (bgo D5.out (Below.trans (b1 _) (o6.1 : Below w5.heap.size _ w6))); clear r6 o6 D5))
      refine wp_meetY 14 15 79 10 (fun v u wx => ∃ g : Nat, v = .pointer (some ⟨g, 0, none⟩) ∧ u = .int .i64 0 ∧ Hid (RowAt g #[.int .i64 V9, .int .i64 f.K, .string ⟨#[]⟩, .slice none 0 0, .slice none 0 0, .bool f.s] wx ∧ Below w6.heap.size w6 wx)) ?_ ?_
      · intro G hG
        have HR6 := Lib.hid (HRow.out.go D6.out)
        refine wp_region_held_drew (S := fun w' => RowAt w2.heap.size #[.int .i64 5, .int .i64 f.S, .int .i64 0, .int .u64 0, .int .i64 0, .int .i64 0, .bool false, .int .i64 0, .int .i64 0, .int .u64 0, .slice a1 0 c1, .bool false, .int .i64 0, .int .u64 0, .slice a2 0 c2, .int .i64 0, .int .i64 0, .slice a3 0 c3, .bool false, .int .i64 f.S, .int .i64 f.T, .int .i64 f.K, .slice a4 f.L.length c4, .bool f.s, .int .i64 0, .int .i64 0, .int .i64 0, .slice a5 0 c5, .bool false] w') (by kernel_rfl) HR6.out.drew (fun hH0 => ?_)
        refine wpAnyH_take (i := 0) (v := .agg #[.int .i64 5, .int .i64 f.S, .int .i64 0, .int .u64 0, .int .i64 0, .int .i64 0, .bool false, .int .i64 0, .int .i64 0, .int .u64 0, .slice a1 0 c1, .bool false, .int .i64 0, .int .u64 0, .slice a2 0 c2, .int .i64 0, .int .i64 0, .slice a3 0 c3, .bool false, .int .i64 f.S, .int .i64 f.T, .int .i64 f.K, .slice a4 f.L.length c4, .bool f.s, .int .i64 0, .int .i64 0, .int .i64 0, .slice a5 0 c5, .bool false]) rfl (by kernel_rfl) (by kernel_rfl) (by kernel_rfl) (fun _ _ _ h => h) (Or.inl ⟨by rfl, fun _ hs => run_part rfl rfl hs Tryz.underlying48 rfl infSk (by kernel_rfl)⟩) hH0 ?_
        try simp only [Act.put, List.getElem_toArray, List.getElem_cons_zero, List.getElem_cons_succ, List.setIfInBounds_toArray, List.set_cons_zero, List.set_cons_succ]
        refine wpAnyH_take (i := 1) (v := .int .i64 n) rfl (by kernel_rfl) (by kernel_rfl) (by kernel_rfl) (fun _ _ _ h => h) (Or.inl ⟨by rfl, fun _ _ => run_mv rfl rfl⟩) hH0 ?_
        try simp only [Act.put, List.getElem_toArray, List.getElem_cons_zero, List.getElem_cons_succ, List.setIfInBounds_toArray, List.set_cons_zero, List.set_cons_succ]
        refine wpAnyH_take (i := 2) (v := .int .i64 (n / 16)) rfl (by kernel_rfl) (by kernel_rfl) (by kernel_rfl) (fun _ _ _ h => h) (Or.inl ⟨by rfl, fun ww hSw => by go_simp⟩) hH0 ?_
        try simp only [Act.put, List.getElem_toArray, List.getElem_cons_zero, List.getElem_cons_succ, List.setIfInBounds_toArray, List.set_cons_zero, List.set_cons_succ]
        refine wpAnyH_take (i := 3) (v := .int .i64 c) rfl (by kernel_rfl) (by kernel_rfl) (by kernel_rfl) (fun _ _ _ h => h) (Or.inl ⟨by rfl, fun ww hSw => by go_simp⟩) hH0 ?_
        try simp only [Act.put, List.getElem_toArray, List.getElem_cons_zero, List.getElem_cons_succ, List.setIfInBounds_toArray, List.set_cons_zero, List.set_cons_succ]
        refine wpAnyH_ready (rs := [4, 10]) (by kernel_rfl) (by simp) ?_
        refine AllReadyH.cons rfl (fun K1 hK1 => ?_) (AllReadyH.cons rfl (fun K1 hK1 => ?_) AllReadyH.nil)
        · skip
          (dsimp only [List.getElem_toArray, List.getElem_cons_zero, List.getElem_cons_succ])
          rw [if_pos (by rfl)]
          go_simp
          go_at_call 23
          have HC := HKy.out w6.drew
          (with_reducible refine HC.mono ?_)
          clear HC
          rintro e w8 ⟨rfl, hbk⟩
          have DK := Lib.hid (bgo (below_drew (Below.refl w6.heap.size w6)) hbk)
          refine hK1.out _ _ (HR6.out.go DK.out) (fun hHk => ?_)
          clear hK1 K1
          try simp only [Act.put, List.getElem_toArray, List.getElem_cons_zero, List.getElem_cons_succ, List.setIfInBounds_toArray, List.set_cons_zero, List.set_cons_succ]
          refine wpAnyH_take (i := 5) (v := .agg #[.int .i64 2, .string KY, .int .i64 0, .int .i64 0, .int .i64 0]) rfl (by kernel_rfl) (by kernel_rfl) (by kernel_rfl) (fun _ _ _ h => h) (Or.inl ⟨by rfl, fun ww hSw => by go_simp⟩) hHk ?_
          try simp only [Act.put, List.getElem_toArray, List.getElem_cons_zero, List.getElem_cons_succ, List.setIfInBounds_toArray, List.set_cons_zero, List.set_cons_succ]
          refine wpAnyH_ready (rs := [6, 10]) (by kernel_rfl) (by simp) ?_
          refine AllReadyH.cons rfl (fun K1 hK1 => ?_) (AllReadyH.cons rfl (fun K1 hK1 => ?_) AllReadyH.nil)
          · skip
            (dsimp only [List.getElem_toArray, List.getElem_cons_zero, List.getElem_cons_succ])
            rw [if_pos (by rfl)]
            go_simp
            go_at_call 15
            have HC := HPt.out w8 (bgo D6.out DK.out)
            (with_reducible refine HC.mono ?_)
            clear HC
            rintro e w9 ⟨rfl, hb9⟩
            have D9 := Lib.hid (bgo DK.out hb9)
            refine hK1.out _ _ (HR6.out.go D9.out) (fun hH2 => ?_)
            clear hK1 K1
            try simp only [Act.put, List.getElem_toArray, List.getElem_cons_zero, List.getElem_cons_succ, List.setIfInBounds_toArray, List.set_cons_zero, List.set_cons_succ]
            refine wpAnyH_take (i := 7) (v := .tuple #[.agg #[.int .i64 V9, .int .i64 f.K, .string ⟨#[]⟩, .slice none 0 0, .slice none 0 0, .bool f.s], .int .i64 0]) rfl (by kernel_rfl) (by kernel_rfl) (by kernel_rfl) (fun _ _ _ h => h) (Or.inl ⟨by rfl, fun _ _ => run_mv rfl rfl⟩) hH2 ?_
            try simp only [Act.put, List.getElem_toArray, List.getElem_cons_zero, List.getElem_cons_succ, List.setIfInBounds_toArray, List.set_cons_zero, List.set_cons_succ]
            refine wpAnyH_take (i := 8) (v := .agg #[.int .i64 V9, .int .i64 f.K, .string ⟨#[]⟩, .slice none 0 0, .slice none 0 0, .bool f.s]) rfl (by kernel_rfl) (by kernel_rfl) (by kernel_rfl) (fun _ _ _ h => h) (Or.inl ⟨by rfl, fun ww hSw => by go_simp⟩) hH2 ?_
            try simp only [Act.put, List.getElem_toArray, List.getElem_cons_zero, List.getElem_cons_succ, List.setIfInBounds_toArray, List.set_cons_zero, List.set_cons_succ]
            refine wpAnyH_take (i := 9) (v := .int .i64 0) rfl (by kernel_rfl) (by kernel_rfl) (by kernel_rfl) (fun _ _ _ h => h) (Or.inl ⟨by rfl, fun ww hSw => by go_simp⟩) hH2 ?_
            try simp only [Act.put, List.getElem_toArray, List.getElem_cons_zero, List.getElem_cons_succ, List.setIfInBounds_toArray, List.set_cons_zero, List.set_cons_succ]
            refine wpAnyH_ready (rs := [10]) (by kernel_rfl) (by simp) ?_
            refine AllReadyH.cons rfl (fun K1 hK1 => ?_) AllReadyH.nil
            (dsimp only [List.getElem_toArray, List.getElem_cons_zero, List.getElem_cons_succ])
            rw [if_pos (by rfl)]
            go_simp
            have DA := Lib.hid (bgo D9.out (b1 (.cells #[.int .i64 0, .int .i64 0, .string ⟨#[]⟩, .slice none 0 0, .slice none 0 0, .bool false] 51)))
            refine hK1.out _ _ (HR6.out.go DA.out) (fun hHa => ?_)
            clear hK1 K1
            try simp only [Act.put, List.getElem_toArray, List.getElem_cons_zero, List.getElem_cons_succ, List.setIfInBounds_toArray, List.set_cons_zero, List.set_cons_succ]
            refine wpAnyH_ready (rs := [11]) (by kernel_rfl) (by simp) ?_
            refine AllReadyH.cons rfl (fun K1 hK1 => ?_) AllReadyH.nil
            show ite _ _ _
            refine step_whole (B := #[.int .i64 V9, .int .i64 f.K, .string ⟨#[]⟩, .slice none 0 0, .slice none 0 0, .bool f.s]) rfl rfl rfl (RowAt.new w9 zcAn 51) rfl infAn (all_one rfl) rfl ?_
            intro w11 r11 o11
            have D11 := Lib.hid (DA.out.trans (o11.1.mono D9.out.size))
            refine hK1.out _ _ (HR6.out.go D11.out) (fun hH3 => ?_)
            clear hK1 K1
            try simp only [Act.put, List.getElem_toArray, List.getElem_cons_zero, List.getElem_cons_succ, List.setIfInBounds_toArray, List.set_cons_zero, List.set_cons_succ]
            refine wpAnyH_take (i := 12) (v := .int .i64 0) rfl (by kernel_rfl) (by kernel_rfl) (by kernel_rfl) (fun _ _ _ h => h) (Or.inl ⟨by rfl, fun _ _ => run_as rfl rfl⟩) hH3 ?_
            try simp only [Act.put, List.getElem_toArray, List.getElem_cons_zero, List.getElem_cons_succ, List.setIfInBounds_toArray, List.set_cons_zero, List.set_cons_succ]
            refine wpAnyH_done (by kernel_rfl) ?_ _
            exact hG _ _ _ _ ⟨[_, _, _, _, _, _, _, _, _, _], rfl, rfl⟩ ⟨_, rfl, rfl, Lib.hid ⟨r11, D11.out⟩⟩
          · skip
            (dsimp only [List.getElem_toArray, List.getElem_cons_zero, List.getElem_cons_succ])
            rw [if_pos (by rfl)]
            go_simp
            have DA := Lib.hid (bgo DK.out (b1 (.cells #[.int .i64 0, .int .i64 0, .string ⟨#[]⟩, .slice none 0 0, .slice none 0 0, .bool false] 51)))
            refine hK1.out _ _ (HR6.out.go DA.out) (fun hHa => ?_)
            clear hK1 K1
            try simp only [Act.put, List.getElem_toArray, List.getElem_cons_zero, List.getElem_cons_succ, List.setIfInBounds_toArray, List.set_cons_zero, List.set_cons_succ]
            have NA := Lib.hid (RowAt.new w8 zcAn 51)
            refine wpAnyH_ready (rs := [6]) (by kernel_rfl) (by simp) ?_
            refine AllReadyH.cons rfl (fun K1 hK1 => ?_) AllReadyH.nil
            (dsimp only [List.getElem_toArray, List.getElem_cons_zero, List.getElem_cons_succ])
            rw [if_pos (by rfl)]
            go_simp
            go_at_call 15
            have HC := HPt.out (w8.alloc (.cells #[.int .i64 0, .int .i64 0, .string ⟨#[]⟩, .slice none 0 0, .slice none 0 0, .bool false] 51)) (bgo D6.out DA.out)
            (with_reducible refine HC.mono ?_)
            clear HC
            rintro e w9 ⟨rfl, hb9⟩
            have D9 := Lib.hid (bgo DA.out hb9)
            refine hK1.out _ _ (HR6.out.go D9.out) (fun hH2 => ?_)
            clear hK1 K1
            try simp only [Act.put, List.getElem_toArray, List.getElem_cons_zero, List.getElem_cons_succ, List.setIfInBounds_toArray, List.set_cons_zero, List.set_cons_succ]
            have NB := Lib.hid (NA.out.go hb9)
            refine wpAnyH_take (i := 7) (v := .tuple #[.agg #[.int .i64 V9, .int .i64 f.K, .string ⟨#[]⟩, .slice none 0 0, .slice none 0 0, .bool f.s], .int .i64 0]) rfl (by kernel_rfl) (by kernel_rfl) (by kernel_rfl) (fun _ _ _ h => h) (Or.inl ⟨by rfl, fun _ _ => run_mv rfl rfl⟩) hH2 ?_
            try simp only [Act.put, List.getElem_toArray, List.getElem_cons_zero, List.getElem_cons_succ, List.setIfInBounds_toArray, List.set_cons_zero, List.set_cons_succ]
            refine wpAnyH_take (i := 8) (v := .agg #[.int .i64 V9, .int .i64 f.K, .string ⟨#[]⟩, .slice none 0 0, .slice none 0 0, .bool f.s]) rfl (by kernel_rfl) (by kernel_rfl) (by kernel_rfl) (fun _ _ _ h => h) (Or.inl ⟨by rfl, fun ww hSw => by go_simp⟩) hH2 ?_
            try simp only [Act.put, List.getElem_toArray, List.getElem_cons_zero, List.getElem_cons_succ, List.setIfInBounds_toArray, List.set_cons_zero, List.set_cons_succ]
            refine wpAnyH_take (i := 9) (v := .int .i64 0) rfl (by kernel_rfl) (by kernel_rfl) (by kernel_rfl) (fun _ _ _ h => h) (Or.inl ⟨by rfl, fun ww hSw => by go_simp⟩) hH2 ?_
            try simp only [Act.put, List.getElem_toArray, List.getElem_cons_zero, List.getElem_cons_succ, List.setIfInBounds_toArray, List.set_cons_zero, List.set_cons_succ]
            refine wpAnyH_ready (rs := [11]) (by kernel_rfl) (by simp) ?_
            refine AllReadyH.cons rfl (fun K1 hK1 => ?_) AllReadyH.nil
            show ite _ _ _
            refine step_whole (B := #[.int .i64 V9, .int .i64 f.K, .string ⟨#[]⟩, .slice none 0 0, .slice none 0 0, .bool f.s]) rfl rfl rfl NB.out rfl infAn (all_one rfl) rfl ?_
            intro w11 r11 o11
            have D11 := Lib.hid (D9.out.trans (o11.1.mono DK.out.size))
            refine hK1.out _ _ (HR6.out.go D11.out) (fun hH3 => ?_)
            clear hK1 K1
            try simp only [Act.put, List.getElem_toArray, List.getElem_cons_zero, List.getElem_cons_succ, List.setIfInBounds_toArray, List.set_cons_zero, List.set_cons_succ]
            refine wpAnyH_take (i := 12) (v := .int .i64 0) rfl (by kernel_rfl) (by kernel_rfl) (by kernel_rfl) (fun _ _ _ h => h) (Or.inl ⟨by rfl, fun _ _ => run_as rfl rfl⟩) hH3 ?_
            try simp only [Act.put, List.getElem_toArray, List.getElem_cons_zero, List.getElem_cons_succ, List.setIfInBounds_toArray, List.set_cons_zero, List.set_cons_succ]
            refine wpAnyH_done (by kernel_rfl) ?_ _
            exact hG _ _ _ _ ⟨[_, _, _, _, _, _, _, _, _, _], rfl, rfl⟩ ⟨_, rfl, rfl, Lib.hid ⟨r11, D11.out⟩⟩
        · skip
          (dsimp only [List.getElem_toArray, List.getElem_cons_zero, List.getElem_cons_succ])
          rw [if_pos (by rfl)]
          go_simp
          have DA := Lib.hid (bgo (below_drew (Below.refl w6.heap.size w6)) (b1 (.cells #[.int .i64 0, .int .i64 0, .string ⟨#[]⟩, .slice none 0 0, .slice none 0 0, .bool false] 51)))
          refine hK1.out _ _ (HR6.out.go DA.out) (fun hHa => ?_)
          clear hK1 K1
          try simp only [Act.put, List.getElem_toArray, List.getElem_cons_zero, List.getElem_cons_succ, List.setIfInBounds_toArray, List.set_cons_zero, List.set_cons_succ]
          have NA := Lib.hid (RowAt.new w6.drew zcAn 51)
          refine wpAnyH_ready (rs := [4]) (by kernel_rfl) (by simp) ?_
          refine AllReadyH.cons rfl (fun K1 hK1 => ?_) AllReadyH.nil
          (dsimp only [List.getElem_toArray, List.getElem_cons_zero, List.getElem_cons_succ])
          rw [if_pos (by rfl)]
          go_simp
          go_at_call 23
          have HC := HKy.out (w6.alloc (.cells #[.int .i64 0, .int .i64 0, .string ⟨#[]⟩, .slice none 0 0, .slice none 0 0, .bool false] 51)).drew
          (with_reducible refine HC.mono ?_)
          clear HC
          rintro e w8 ⟨rfl, hbk⟩
          have DK := Lib.hid (bgo DA.out hbk)
          refine hK1.out _ _ (HR6.out.go DK.out) (fun hHk => ?_)
          clear hK1 K1
          try simp only [Act.put, List.getElem_toArray, List.getElem_cons_zero, List.getElem_cons_succ, List.setIfInBounds_toArray, List.set_cons_zero, List.set_cons_succ]
          refine wpAnyH_take (i := 5) (v := .agg #[.int .i64 2, .string KY, .int .i64 0, .int .i64 0, .int .i64 0]) rfl (by kernel_rfl) (by kernel_rfl) (by kernel_rfl) (fun _ _ _ h => h) (Or.inl ⟨by rfl, fun ww hSw => by go_simp⟩) hHk ?_
          try simp only [Act.put, List.getElem_toArray, List.getElem_cons_zero, List.getElem_cons_succ, List.setIfInBounds_toArray, List.set_cons_zero, List.set_cons_succ]
          have NC := Lib.hid (NA.out.go hbk)
          refine wpAnyH_ready (rs := [6]) (by kernel_rfl) (by simp) ?_
          refine AllReadyH.cons rfl (fun K1 hK1 => ?_) AllReadyH.nil
          (dsimp only [List.getElem_toArray, List.getElem_cons_zero, List.getElem_cons_succ])
          rw [if_pos (by rfl)]
          go_simp
          go_at_call 15
          have HC := HPt.out w8 (bgo D6.out DK.out)
          (with_reducible refine HC.mono ?_)
          clear HC
          rintro e w9 ⟨rfl, hb9⟩
          have D9 := Lib.hid (bgo DK.out hb9)
          refine hK1.out _ _ (HR6.out.go D9.out) (fun hH2 => ?_)
          clear hK1 K1
          try simp only [Act.put, List.getElem_toArray, List.getElem_cons_zero, List.getElem_cons_succ, List.setIfInBounds_toArray, List.set_cons_zero, List.set_cons_succ]
          have NB := Lib.hid (NC.out.go hb9)
          refine wpAnyH_take (i := 7) (v := .tuple #[.agg #[.int .i64 V9, .int .i64 f.K, .string ⟨#[]⟩, .slice none 0 0, .slice none 0 0, .bool f.s], .int .i64 0]) rfl (by kernel_rfl) (by kernel_rfl) (by kernel_rfl) (fun _ _ _ h => h) (Or.inl ⟨by rfl, fun _ _ => run_mv rfl rfl⟩) hH2 ?_
          try simp only [Act.put, List.getElem_toArray, List.getElem_cons_zero, List.getElem_cons_succ, List.setIfInBounds_toArray, List.set_cons_zero, List.set_cons_succ]
          refine wpAnyH_take (i := 8) (v := .agg #[.int .i64 V9, .int .i64 f.K, .string ⟨#[]⟩, .slice none 0 0, .slice none 0 0, .bool f.s]) rfl (by kernel_rfl) (by kernel_rfl) (by kernel_rfl) (fun _ _ _ h => h) (Or.inl ⟨by rfl, fun ww hSw => by go_simp⟩) hH2 ?_
          try simp only [Act.put, List.getElem_toArray, List.getElem_cons_zero, List.getElem_cons_succ, List.setIfInBounds_toArray, List.set_cons_zero, List.set_cons_succ]
          refine wpAnyH_take (i := 9) (v := .int .i64 0) rfl (by kernel_rfl) (by kernel_rfl) (by kernel_rfl) (fun _ _ _ h => h) (Or.inl ⟨by rfl, fun ww hSw => by go_simp⟩) hH2 ?_
          try simp only [Act.put, List.getElem_toArray, List.getElem_cons_zero, List.getElem_cons_succ, List.setIfInBounds_toArray, List.set_cons_zero, List.set_cons_succ]
          refine wpAnyH_ready (rs := [11]) (by kernel_rfl) (by simp) ?_
          refine AllReadyH.cons rfl (fun K1 hK1 => ?_) AllReadyH.nil
          show ite _ _ _
          refine step_whole (B := #[.int .i64 V9, .int .i64 f.K, .string ⟨#[]⟩, .slice none 0 0, .slice none 0 0, .bool f.s]) rfl rfl rfl NB.out rfl infAn (all_one rfl) rfl ?_
          intro w11 r11 o11
          have D11 := Lib.hid (D9.out.trans (o11.1.mono (Nat.le_refl _)))
          refine hK1.out _ _ (HR6.out.go D11.out) (fun hH3 => ?_)
          clear hK1 K1
          try simp only [Act.put, List.getElem_toArray, List.getElem_cons_zero, List.getElem_cons_succ, List.setIfInBounds_toArray, List.set_cons_zero, List.set_cons_succ]
          refine wpAnyH_take (i := 12) (v := .int .i64 0) rfl (by kernel_rfl) (by kernel_rfl) (by kernel_rfl) (fun _ _ _ h => h) (Or.inl ⟨by rfl, fun _ _ => run_as rfl rfl⟩) hH3 ?_
          try simp only [Act.put, List.getElem_toArray, List.getElem_cons_zero, List.getElem_cons_succ, List.setIfInBounds_toArray, List.set_cons_zero, List.set_cons_succ]
          refine wpAnyH_done (by kernel_rfl) ?_ _
          exact hG _ _ _ _ ⟨[_, _, _, _, _, _, _, _, _, _], rfl, rfl⟩ ⟨_, rfl, rfl, Lib.hid ⟨r11, D11.out⟩⟩
      · intro a' wz v9 u9 hoff HX9
        obtain ⟨us, hus, rfl⟩ := hoff
        obtain ⟨g9, rfl, rfl, HG9⟩ := HX9
        obtain ⟨hg, hd⟩ := HG9.out
        match us, hus with
        | [y0, y1, y2, y3, y4, y5, y6, y7, y8, y9], _ =>
          simp only [List.set_cons_succ, List.set_cons_zero, List.take_succ_cons, List.take_zero, List.drop_succ_cons, List.drop_zero, List.cons_append, List.nil_append]
          have A9 := Lib.hid hg
          have A12 := Lib.hid (A6.out.go hd)
          have B12 := Lib.hid (bgo HB.out (bgo D6.out hd))
          clear hg hd HG9 A6
          go_wp2_with (first
            | (refine wpList_if (p := true) (v := .int .i64 f.K) rfl (fun _ => run_cell rfl rfl A9.out Tryz.underlying3 rfl rfl) ?_)
            | (refine wpList_if (p := true) (v := .int .i64 V9) rfl (fun _ => run_cell rfl rfl A9.out Tryz.underlying3 rfl rfl) ?_)
            | (refine wpList_if (p := true) (v := .int .i64 f.T) rfl (fun _ => run_cell rfl rfl A12.out Tryz.underlying3 rfl rfl) ?_)
            | (go_at_call 9; (with_reducible refine (H9.out _ (T0.out.go B12.out)).mono ?_); rintro e w13 ⟨rfl, hb13⟩; have B13 := Lib.hid (bgo B12.out hb13); clear hb13))
          go_ret
          exact ⟨rfl, B13.out⟩
theorem queryPoints_walk (a : Option Addr) (len cap : Nat) (z : List Int) (n : Int) (W : World) (w0 : InRow .i64 W a len cap z) (w1 : (Lit.int .i64 n).wf = true) (ht : SupT W) :
    Calls Tryz.prog 7 #[.slice a len cap, .int .i64 n] W fun e w' => e = .returned (.bool true) ∧ Below W.heap.size W w' := by
  have h2 : n % 2 = 0 ∨ n % 2 = 1 := by omega
  rcases h2 with h | h
  · exact points_top (z.take len) (.slice a len cap) n W (inRow_rdJ w0) h ht
  · exact points_frq (z.take len) (.slice a len cap) n W (inRow_rdJ w0) h ht
end Go.Proofs.YtjibbnknliamkaaGreatDoor
