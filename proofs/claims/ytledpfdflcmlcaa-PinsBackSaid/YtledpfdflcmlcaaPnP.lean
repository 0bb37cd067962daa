/- The program's Add and Remove of pins. -/
import Derived.Test.YtledpfdflcmlcaaPnG
namespace Go.Proofs.Ytledpfdflcmlcaa
open Go.RowKit
set_option linter.unusedVariables false
set_option linter.unusedSimpArgs false
section
variable (L : List Pn) (v : Value) (c : Int) (w : World)
set_option maxRecDepth 100000 in
set_option maxHeartbeats 2000000 in
theorem paddp_bad (hv : RdPn L v w) (hL : L.length ≤ 1000000) (z : Int) (hz : valN L = z) (h0 : z ≠ 0) :
    Calls Try.prog 8 #[v, .int .i64 c] w fun e w' => ∃ u, e = .returned (.tuple #[u, .int .i64 z]) ∧ OwnPn w.heap.size [] u w' ∧ Below w.heap.size w w' := by
  have hval := pvalp_any L _ w hv (by omega)
  obtain ⟨a, cap, rfl⟩ := hv.shape
  clear hv
  rw [hz] at hval
  clear hz
  go_enter Try.func8, Try.ntmps8
  go_wp2_with (go_at_call 12; refine hval.mono ?_; rintro e w1 ⟨rfl, hb1⟩; have B1 := Lib.hid hb1; clear hb1 hval)
  go_ret2
  exact ⟨_, rfl, OwnPn.empty _ _, B1.out⟩
set_option maxRecDepth 100000 in
set_option maxHeartbeats 2000000 in
theorem paddp_neg (hv : RdPn L v w) (hL : L.length ≤ 1000000) (hz : valN L = 0) (hc : c < 0) :
    Calls Try.prog 8 #[v, .int .i64 c] w fun e w' => ∃ u, e = .returned (.tuple #[u, .int .i64 5]) ∧ OwnPn w.heap.size [] u w' ∧ Below w.heap.size w w' := by
  have hval := pvalp_any L _ w hv (by omega)
  obtain ⟨a, cap, rfl⟩ := hv.shape
  clear hv
  rw [hz] at hval
  clear hz
  go_enter Try.func8, Try.ntmps8
  go_wp2_with (go_at_call 12; refine hval.mono ?_; rintro e w1 ⟨rfl, hb1⟩; have B1 := Lib.hid hb1; clear hb1 hval)
  go_ret2
  exact ⟨_, rfl, OwnPn.empty _ _, B1.out⟩
/-- What Add answers with a valid list and a commit that is not negative. -/
def AddPost (L : List Pn) (c : Int) (w : World) (e : Ending) (w' : World) : Prop := ∃ u, e = .returned (.tuple #[u, .int .i64 (if fullP L c = true then 14 else 0)]) ∧ OwnPn w.heap.size (if fullP L c = true then [] else addP c L) u w' ∧ Below w.heap.size w w'
theorem AddPost.ok {L : List Pn} {c : Int} {w w' : World} {e : Ending} {u : Value} (he : e = .returned (.tuple #[u, .int .i64 0])) (hf : fullP L c = false) (ho : OwnPn w.heap.size (addP c L) u w') (hb : Below w.heap.size w w') : AddPost L c w e w' :=
  ⟨u, by rw [hf, if_neg (by decide)]; exact he, by rw [hf, if_neg (by decide)]; exact ho, hb⟩
theorem AddPost.full {L : List Pn} {c : Int} {w w' : World} {e : Ending} (he : e = .returned (.tuple #[.slice none 0 0, .int .i64 14])) (hf : fullP L c = true) (hb : Below w.heap.size w w') : AddPost L c w e w' :=
  ⟨_, by rw [hf, if_pos rfl]; exact he, by rw [hf, if_pos rfl]; exact OwnPn.empty _ _, hb⟩
set_option maxRecDepth 100000 in
set_option maxHeartbeats 4000000 in
theorem paddp_ok (hv : RdPn L v w) (hL : L.length ≤ 1000000) (hz : valN L = 0) (hc : 0 ≤ c ∧ c ≤ 9223372036854775807) :
    Calls Try.prog 8 #[v, .int .i64 c] w fun e w' => AddPost L c w e w' := by
  have hvd := (vd_iff L).1 hz
  have hval := pvalp_any L _ w hv (by omega)
  obtain ⟨a, cap, rfl⟩ := hv.shape
  have HV := Lib.hid hv
  have HVD := Lib.hid hvd
  have HFI := Lib.hid (fun (w' : World) (hb : Below w.heap.size w w') => findPn_any L c _ w' (hv.below hb) hL hvd.sorted)
  clear hv hvd
  rw [hz] at hval
  clear hz
  have hc0 := hc.1
  have hc1 := hc.2
  go_enter Try.func8, Try.ntmps8
  go_upto_region 7 with (first
    | (go_at_call 12; refine hval.mono ?_; rintro e w1 ⟨rfl, hb1⟩; have B1 := Lib.hid hb1; clear hb1 hval)
    | (go_at_call 20; refine (HFI.out _ B1.out).mono ?_; rintro e w2 ⟨k, b, hk, h1, h2, h3, rfl, hb2⟩; have B2 := Lib.hid (bgo B1.out hb2); have HP : Hid (PlaceP L c k) := Lib.hid ⟨hk, h1, h2⟩; have HB := Lib.hid h3; clear hk h1 h2 h3 hb2))
  cases b with
  | false =>
    have hno : ∀ x ∈ L, x.m ≠ c := HP.out.none HVD.out (fun h => by have := HB.out.2 h; cases this)
    have HADD := Lib.hid (HP.out.add_new (fun h => by have := HB.out.2 h; cases this))
    have HF := Lib.hid (PlaceP.full_none hno)
    have HX1 : Hid (Pn.ok ⟨c, 1⟩) := Lib.hid ⟨by show -9223372036854775808 ≤ c ∧ c ≤ 9223372036854775807; omega, by show (-9223372036854775808 : Int) ≤ 1 ∧ (1 : Int) ≤ 9223372036854775807; decide⟩
    clear hno
    go_wp2_with (first
      | (go_at_call 22; refine (clonePn_any L _ w2 (HV.out.below B2.out) hL).mono ?_; rintro e w3 ⟨v3, rfl, ho3, hb3⟩; have HO3 := Lib.hid ho3; have B3 := Lib.hid hb3; have HNE : Hid (v3.ownBlock ≠ some w3.heap.size) := Lib.hid (fun h => Nat.lt_irrefl _ (World.ownsRow.lt ho3.2 _ h).2); clear ho3 hb3)
      | (go_at_call 21; refine (insPn_any L ⟨c, 1⟩ w2.heap.size w3.heap.size k v3 _ (HO3.out.alloc _) ((OwnPn.one HX1.out w3).mono (Nat.zero_le _)) HNE.out HP.out.1 (bal B3.out _).size hL).mono ?_; rintro e w4 ⟨v4, rfl, ho4, hb4⟩; have HO4 := Lib.hid ho4; have B4 := Lib.hid (bgo B2.out ((bal B3.out _).trans hb4)); clear ho4 hb4))
    go_ret2
    exact AddPost.ok rfl HF.out (by rw [HADD.out]; exact HO4.out.mono B2.out.size) B4.out
  | true =>
    obtain ⟨hk, he⟩ := HB.out.1 rfl
    have HF := Lib.hid (HP.out.full_hit HVD.out hk he)
    have HADD := Lib.hid (HP.out.add_hit hk he)
    obtain ⟨bb, off, rfl, hbl, c0, c1⟩ := (HV.out.below B2.out).at_ hk
    have hok := (HV.out.1.at_ k).2
    have hn2 := (vd_drop k HVD.out hk).2
    have hk2 : (k : Int) < (L.length : Int) := by omega
    have HK := Lib.hid hk
    obtain ⟨n, hn⟩ : ∃ n, n = (L.getD k Pn.z).n := ⟨_, rfl⟩
    rw [← hn] at c1 hok HF HADD hn2
    have HNN := Lib.hid hn
    clear hn he c0
    by_cases h24 : n = 1024
    · have HF2 : Hid (fullP L c = true) := Lib.hid (by rw [HF.out]; simpa using h24)
      subst h24
      go_wp2
      go_ret2
      exact AddPost.full rfl HF2.out B2.out
    · have HF2 : Hid (fullP L c = false) := Lib.hid (by rw [HF.out]; simpa using h24)
      have hn0 : n + 1 ≤ 1024 := by omega
      have hn1 : 1 ≤ n := hn2.1
      clear hn2 hok HF
      go_upto_region 12 with (go_at_call 22; refine (clonePn_any L _ w2 (HV.out.below B2.out) hL).mono ?_; rintro e w3 ⟨v3, rfl, ho3, hb3⟩; have HO3 := Lib.hid ho3; have B3 := Lib.hid (bgo B2.out hb3); clear ho3 hb3)
      have h3 := HO3.out.2.2
      rcases h3 with ⟨-, h3⟩ | ⟨g, c3, cur, rfl, hg3, -, h31, h32, -, -⟩
      · have := HK.out
        omega
      have hcell := (HO3.out.cellsAt HK.out).2
      rw [← HNN.out] at hcell
      have hfro := row_frozen HO3.out.2 (k * 2 + 1)
      have HST := Lib.hid (HO3.out.storedN HK.out (c := n + 1) (by omega))
      have HG3 : Hid (w.heap.size ≤ g) := Lib.hid (Nat.le_trans B2.out.size hg3)
      clear h31 h32 hg3 c1
      go_wp2
      go_ret2
      exact AddPost.ok rfl HF2.out (by rw [HADD.out]; exact HST.out.mono B2.out.size) (bset B3.out _ _ _ HG3.out)
/-- What Remove answers with a valid list. -/
def RemPost (L : List Pn) (c : Int) (w : World) (e : Ending) (w' : World) : Prop := ∃ u, e = .returned (.tuple #[u, .int .i64 (if remF L c = true then 0 else 8)]) ∧ OwnPn w.heap.size (if remF L c = true then remP c L else []) u w' ∧ Below w.heap.size w w'
theorem RemPost.ok {L : List Pn} {c : Int} {w w' : World} {e : Ending} {u : Value} (he : e = .returned (.tuple #[u, .int .i64 0])) (hf : remF L c = true) (ho : OwnPn w.heap.size (remP c L) u w') (hb : Below w.heap.size w w') : RemPost L c w e w' :=
  ⟨u, by rw [hf, if_pos rfl]; exact he, by rw [hf, if_pos rfl]; exact ho, hb⟩
theorem RemPost.none {L : List Pn} {c : Int} {w w' : World} {e : Ending} (he : e = .returned (.tuple #[.slice none 0 0, .int .i64 8])) (hf : remF L c = false) (hb : Below w.heap.size w w') : RemPost L c w e w' :=
  ⟨_, by rw [hf, if_neg (by decide)]; exact he, by rw [hf, if_neg (by decide)]; exact OwnPn.empty _ _, hb⟩
set_option maxRecDepth 100000 in
set_option maxHeartbeats 2000000 in
theorem premp_bad (hv : RdPn L v w) (hL : L.length ≤ 1000000) (z : Int) (hz : valN L = z) (h0 : z ≠ 0) :
    Calls Try.prog 10 #[v, .int .i64 c] w fun e w' => ∃ u, e = .returned (.tuple #[u, .int .i64 z]) ∧ OwnPn w.heap.size [] u w' ∧ Below w.heap.size w w' := by
  have hval := pvalp_any L _ w hv (by omega)
  obtain ⟨a, cap, rfl⟩ := hv.shape
  clear hv
  rw [hz] at hval
  clear hz
  go_enter Try.func10, Try.ntmps10
  go_wp2_with (go_at_call 12; refine hval.mono ?_; rintro e w1 ⟨rfl, hb1⟩; have B1 := Lib.hid hb1; clear hb1 hval)
  go_ret2
  exact ⟨_, rfl, OwnPn.empty _ _, B1.out⟩
set_option maxRecDepth 100000 in
set_option maxHeartbeats 4000000 in
theorem premp_ok (hv : RdPn L v w) (hL : L.length ≤ 1000000) (hz : valN L = 0) :
    Calls Try.prog 10 #[v, .int .i64 c] w fun e w' => RemPost L c w e w' := by
  have hvd := (vd_iff L).1 hz
  have hval := pvalp_any L _ w hv (by omega)
  obtain ⟨a, cap, rfl⟩ := hv.shape
  have HV := Lib.hid hv
  have HVD := Lib.hid hvd
  have HFI := Lib.hid (fun (w' : World) (hb : Below w.heap.size w w') => findPn_any L c _ w' (hv.below hb) hL hvd.sorted)
  clear hv hvd
  rw [hz] at hval
  clear hz
  go_enter Try.func10, Try.ntmps10
  go_upto_region 5 with (first
    | (go_at_call 12; refine hval.mono ?_; rintro e w1 ⟨rfl, hb1⟩; have B1 := Lib.hid hb1; clear hb1 hval)
    | (go_at_call 20; refine (HFI.out _ B1.out).mono ?_; rintro e w2 ⟨k, b, hk, h1, h2, h3, rfl, hb2⟩; have B2 := Lib.hid (bgo B1.out hb2); have HP : Hid (PlaceP L c k) := Lib.hid ⟨hk, h1, h2⟩; have HB := Lib.hid h3; clear hk h1 h2 h3 hb2))
  cases b with
  | false =>
    have HF := Lib.hid (PlaceP.rem_none (HP.out.none HVD.out (fun h => by have := HB.out.2 h; cases this)))
    go_wp2
    go_ret2
    exact RemPost.none rfl HF.out B2.out
  | true =>
    obtain ⟨hk, he⟩ := HB.out.1 rfl
    have HF := Lib.hid (PlaceP.rem_hit hk he)
    have HREM := Lib.hid (HP.out.rem_at HVD.out hk he)
    have hok := (HV.out.1.at_ k).2
    have hn2 := (vd_drop k HVD.out hk).2
    have hk2 : (k : Int) < (L.length : Int) := by omega
    have hk3 : IntKind.i64.wrap ((k : Int) + 1) = (k : Int) + 1 := by rw [IntKind.wrap_i64]; omega
    have HK := Lib.hid hk
    obtain ⟨n, hn⟩ : ∃ n, n = (L.getD k Pn.z).n := ⟨_, rfl⟩
    rw [← hn] at hok HREM hn2
    have HNN := Lib.hid hn
    clear hn he
    have hn0 : n ≤ 1024 := by omega
    have hn1 : 1 ≤ n := hn2.1
    clear hn2 hok
    go_upto_region 8 with (go_at_call 22; refine (clonePn_any L _ w2 (HV.out.below B2.out) hL).mono ?_; rintro e w3 ⟨v3, rfl, ho3, hb3⟩; have HO3 := Lib.hid ho3; have B3 := Lib.hid (bgo B2.out hb3); have C3 := Lib.hid hb3; clear ho3 hb3)
    have h3 := HO3.out.2.2
    rcases h3 with ⟨-, h3⟩ | ⟨g, c3, cur, rfl, hg3, -, h31, h32, -, -⟩
    · have := HK.out
      omega
    have hcell := (HO3.out.cellsAt HK.out).2
    rw [← HNN.out] at hcell
    have hfro := row_frozen HO3.out.2 (k * 2 + 1)
    have HST := Lib.hid (HO3.out.storedN HK.out (c := n - 1) (by omega))
    have HG3 : Hid (w.heap.size ≤ g) := Lib.hid (Nat.le_trans B2.out.size hg3)
    have HG2 : Hid (w2.heap.size ≤ g) := Lib.hid hg3
    clear h31 h32 hg3
    by_cases h0 : n = 1
    · subst h0
      have HST := Lib.hid (HO3.out.storedN HK.out (c := 0) (by omega))
      have HREM2 : Hid (remP c L = L.take k ++ L.drop (k + 1)) := Lib.hid (by rw [HREM.out, if_pos (by decide)])
      have HCUT : Hid (∀ y : Pn, (L.set k y).take k ++ (L.set k y).drop (k + 1) = L.take k ++ L.drop (k + 1)) := Lib.hid (fun y => by
        rw [List.take_set_of_le (Nat.le_refl _), List.drop_set_of_lt (Nat.lt_succ_self _)])
      have hz0 : (1 : Int) - 1 = 0 := rfl
      go_wp2_with (go_at_call 23; have hdd := delPn_any (L.set k ⟨(L.getD k Pn.z).m, 0⟩) w2.heap.size g k c3 _ (by rw [List.length_set]; exact HST.out) (by rw [List.length_set]; exact HK.out) (bset C3.out g _ _ HG2.out).size (by rw [List.length_set]; exact hL); rw [List.length_set, HCUT.out] at hdd; refine hdd.mono ?_; rintro e w5 ⟨v5, rfl, ho5, hb5⟩; have HO5 := Lib.hid ho5; have B5 := Lib.hid (bgo B2.out ((bset C3.out g _ _ HG2.out).trans hb5)); clear ho5 hb5 hdd)
      go_ret2
      exact RemPost.ok rfl HF.out (by rw [HREM2.out]; exact HO5.out.mono B2.out.size) B5.out
    · have HREM2 : Hid (remP c L = L.set k ⟨(L.getD k Pn.z).m, n - 1⟩) := Lib.hid (by rw [HREM.out, if_neg (by omega)])
      have hz1 : ¬ (n - 1 = 0) := by omega
      go_wp2
      go_ret2
      exact RemPost.ok rfl HF.out (by rw [HREM2.out]; exact HST.out.mono B2.out.size) (bset B3.out _ _ _ HG3.out)
end
theorem paddp_any (L : List Pn) (v : Value) (c : Int) (w : World) (hv : RdPn L v w) (hL : L.length ≤ 1000000) (hc : -9223372036854775808 ≤ c ∧ c ≤ 9223372036854775807) :
    Calls Try.prog 8 #[v, .int .i64 c] w fun e w' => ∃ u, e = .returned (.tuple #[u, .int .i64 (addE L c)]) ∧ OwnPn w.heap.size (addV L c) u w' ∧ Below w.heap.size w w' := by
  by_cases hz : valN L = 0
  · by_cases h0 : c < 0
    · have e : addE L c = 5 := by unfold addE; rw [if_neg (fun h => h hz), if_pos h0]
      have e2 : addV L c = [] := by unfold addV; rw [e, if_neg (by decide)]
      rw [e, e2]
      exact paddp_neg L v c w hv hL hz h0
    · refine (paddp_ok L v c w hv hL hz ⟨by omega, hc.2⟩).mono ?_
      rintro e w' ⟨u, rfl, ho, hb⟩
      have e1 : addE L c = if fullP L c = true then 14 else 0 := by unfold addE; rw [if_neg (fun h => h hz), if_neg h0]
      have e2 : addV L c = if fullP L c = true then [] else addP c L := by
        unfold addV
        rw [e1]
        cases fullP L c <;> rfl
      exact ⟨u, by rw [e1], by rw [e2]; exact ho, hb⟩
  · have e : addE L c = valN L := by unfold addE; rw [if_pos hz]
    have e2 : addV L c = [] := by unfold addV; rw [e, if_neg hz]
    rw [e, e2]
    exact paddp_bad L v c w hv hL _ rfl hz
theorem premp_any (L : List Pn) (v : Value) (c : Int) (w : World) (hv : RdPn L v w) (hL : L.length ≤ 1000000) (hc : -9223372036854775808 ≤ c ∧ c ≤ 9223372036854775807) :
    Calls Try.prog 10 #[v, .int .i64 c] w fun e w' => ∃ u, e = .returned (.tuple #[u, .int .i64 (remE L c)]) ∧ OwnPn w.heap.size (remV L c) u w' ∧ Below w.heap.size w w' := by
  by_cases hz : valN L = 0
  · refine (premp_ok L v c w hv hL hz).mono ?_
    rintro e w' ⟨u, rfl, ho, hb⟩
    have e1 : remE L c = if remF L c = true then 0 else 8 := by unfold remE; rw [if_neg (fun h => h hz)]
    have e2 : remV L c = if remF L c = true then remP c L else [] := by
      unfold remV
      rw [e1]
      cases remF L c <;> rfl
    exact ⟨u, by rw [e1], by rw [e2]; exact ho, hb⟩
  · have e : remE L c = valN L := by unfold remE; rw [if_pos hz]
    have e2 : remV L c = [] := by unfold remV; rw [e, if_neg hz]
    rw [e, e2]
    exact premp_bad L v c w hv hL _ rfl hz
end Go.Proofs.Ytledpfdflcmlcaa
