/- The contracts of Alloc and Data. -/
import Derived.Test.YtmnahnmkffndlaaArH
import Derived.Deep.RegionWith
import Derived.BigQuiet
namespace Go.Proofs.Ytmnahnmkffndlaa
open Go.RowKit Go.Maps
set_option linter.unusedVariables false
set_option linter.unusedSimpArgs false
theorem insP_mem {q x : Pg} : ∀ {L : List Pg}, x ∈ insP q L → x = q ∨ x ∈ L
  | [], h => by simpa [insP] using h
  | p :: L, h => by
    unfold insP at h
    split at h
    · rcases List.mem_cons.1 h with h | h
      · exact .inl h
      · exact .inr h
    · rcases List.mem_cons.1 h with h | h
      · exact .inr (by rw [h]; exact List.mem_cons_self ..)
      · rcases insP_mem h with h | h
        · exact .inl h
        · exact .inr (List.mem_cons_of_mem _ h)
/-- What an arena is behind the insertion of a page. -/
theorem ArAt.ins_ {B g bm : Nat} {c lo : Int} {L : List Pg} {w w' : World} (h : ArAt B g bm c lo L w) (hc : (L.length : Int) ≠ c) {q : Pg} (hq : q.n = frN 1 L) (hr : q.r = 1) {n1 : Int} (hn1 : n1 = frN 1 L + 1)
    (hg : w'.heap[g]? = some (.cells #[.int .i64 c, .map (some bm), .int .i64 n1] 58 (0, 0))) (hm : MapAt B bm (insP q L) w') : ArAt B g bm c n1 (insP q L) w' := by
  have hlk : lookP L q.n = none := by rw [hq]; exact frN_none h.asc
  have hle := frN_le L 1
  have hcap := h.cap
  have ha : AscP 1 (insP q L) := insP_asc q h.asc (by omega) hlk
  refine ⟨⟨_, hg, rfl⟩, hm, ha, fun x hx => ?_, ?_, fun x hx => ?_, ?_, ?_⟩
  · rcases insP_mem hx with rfl | hx
    · omega
    · exact h.refs x hx
  · rw [insP_len]
    omega
  · rcases insP_mem hx with rfl | hx
    · omega
    · exact h.num x hx
  · omega
  · rcases Int.lt_or_le (frN 1 (insP q L)) n1 with hlt | hle'
    · exfalso
      have hn := frN_none ha
      rw [look_ins q L 1 _ h.asc hlk] at hn
      split at hn
      · cases hn
      · rename_i hne
        obtain ⟨y, hy⟩ := frN_some (j := frN 1 (insP q L)) h.asc (frN_le _ _).1 (by omega)
        rw [hy] at hn
        cases hn
    · exact hle'
set_option maxRecDepth 100000 in
theorem alloc_big {B g bm : Nat} {c lo : Int} {L : List Pg} {w : World} (h : ArAt B g bm c lo L w) (d : List Int) (a : Option Addr) (cap : Nat) (hd : 1024 < d.length) (hd2 : d.length ≤ 1000000000000) :
    Calls Try.prog 9 #[.pointer (some ⟨g, 0, none⟩), .slice a d.length cap] w fun e w' => e = .returned (.tuple #[.int .i64 0, .int .i64 11]) ∧ w = w' := by
  have hd1 : (1024 : Int) < (d.length : Int) := by omega
  clear h
  go_enter Try.func9, Try.ntmps9
  go_wp2
  go_ret2
  exact ⟨rfl, rfl⟩
set_option maxRecDepth 100000 in
theorem alloc_full {B g bm : Nat} {c lo : Int} {L : List Pg} {w : World} (h : ArAt B g bm c lo L w) (d : List Int) (a : Option Addr) (cap : Nat) (hd : d.length ≤ 1024) (hf : (L.length : Int) = c) :
    Calls Try.prog 9 #[.pointer (some ⟨g, 0, none⟩), .slice a d.length cap] w fun e w' => e = .returned (.tuple #[.int .i64 0, .int .i64 14]) ∧ Below w.heap.size w w' := by
  have hd1 : ¬ (1024 : Int) < (d.length : Int) := by omega
  have c0 := h.rowAt.cell (j := 0) rfl
  have hlv := fun n => live_any (h.below (below_drewN (Below.refl w.heap.size w) n))
  rw [hf] at hlv
  clear h hf
  go_enter Try.func9, Try.ntmps9
  go_wp2
  go_quiet ((go_at_call 17; exact quiet_left (hlv _)))
  go_wp2
  go_ret2
  exact ⟨rfl, below_drewN (Below.refl _ _) _⟩
set_option maxRecDepth 100000 in
set_option maxHeartbeats 1000000 in
theorem alloc_ok {B g bm : Nat} {c lo : Int} {L : List Pg} {w : World} (h : ArAt B g bm c lo L w) (B0 : Nat) (d : List Int) (v : Value) (hv : Own B0 d v w) (hd : d.length ≤ 1024) (hf : (L.length : Int) ≠ c) (hB : B ≤ w.heap.size) :
    Calls Try.prog 9 #[.pointer (some ⟨g, 0, none⟩), v] w fun e w' => e = .returned (.tuple #[.int .i64 (frN 1 L), .int .i64 0]) ∧ ArAt B g bm c (frN 1 L + 1) (insP ⟨frN 1 L, 1, d⟩ L) w' ∧ Tn g bm w w' := by
  obtain ⟨a, cap, rfl⟩ := hv.shape
  have HV := Lib.hid hv
  have H := Lib.hid h
  have hd1 : ¬ (1024 : Int) < (d.length : Int) := by omega
  have c0 := h.rowAt.cell (j := 0) rfl
  have hlv := fun n => live_any (h.below (below_drewN (Below.refl w.heap.size w) n))
  have HFR := Lib.hid (fun w' (hb : Below w.heap.size w w') => free_any (h.below hb))
  have HF := Lib.hid hf
  have hle := frN_le L 1
  have hcap := h.cap
  have hki : InI (frN 1 L) := ⟨by omega, by omega⟩
  have HLK := Lib.hid (show lookP L (frN 1 L) = none from frN_none h.asc)
  have HQ : Hid (∀ j, lookP (insP ⟨frN 1 L, 1, d⟩ L) j = if j = frN 1 L then some ⟨frN 1 L, 1, d⟩ else lookP L j) := Lib.hid (fun j => look_ins ⟨frN 1 L, 1, d⟩ L 1 j h.asc (frN_none h.asc))
  have HK := Lib.hid hki
  have hfr : frN 1 L ≤ 16385 := by omega
  have hfr1 : 1 ≤ frN 1 L := hle.1
  have HD := Lib.hid hd
  have HBB := Lib.hid hB
  have HLL : Hid (L.length < 1099511627776) := Lib.hid (by omega)
  clear h hv hle hcap hki hd hB
  obtain ⟨n, hn⟩ : ∃ n, n = frN 1 L := ⟨_, rfl⟩
  rw [← hn] at HFR HLK HQ HK hfr hfr1 ⊢
  have HN := Lib.hid hn
  clear hn
  go_enter Try.func9, Try.ntmps9
  go_wp2
  go_quiet ((go_at_call 17; exact quiet_left (hlv _)))
  clear hlv
  go_upto_region 6 with (go_at_call 21; refine (HFR.out _ (below_drewN (Below.refl _ _) _)).mono ?_; rintro e w1 ⟨rfl, hb1⟩; have B1 : Hid (Below w.heap.size w w1) := Lib.hid ((below_drewN (Below.refl w.heap.size w) _).trans hb1); clear hb1)
  have ha := (H.out.below B1.out).below (w' := w1.drew) (below_drew (Below.refl _ _))
  have HA := Lib.hid ha
  have B1' : Hid (Below w.heap.size w w1.drew) := Lib.hid (below_drew B1.out)
  have d1 : w1.cell? ⟨g, 1, none⟩ = some (.map (some bm)) := ha.rowAt.cell (j := 1) rfl
  have HCL := Lib.hid (clone_any B0 d (.slice a d.length cap) w1.drew (HV.out.kpb (KpB.below B1'.out)) (by have := HD.out; omega))
  clear ha
  go_region_with (go_at_call 22; refine HCL.out.mono ?_; rintro e w2 ⟨v2, rfl, o2, hb2⟩; obtain ⟨a2, c2, rfl⟩ := o2.shape; have ha2 := HA.out.below hb2; have d1' : w2.cell? ⟨g, 1, none⟩ = some (.map (some bm)) := ha2.rowAt.cell (j := 1) rfl; obtain ⟨w3, hrun, hm3, ho3⟩ := ha2.map.put (p := ⟨n, 1, d⟩) (L' := insP ⟨n, 1, d⟩ L) (o2.mono (Nat.le_trans HBB.out B1'.out.size)) HK.out HLL.out HQ.out (by rw [insP_len]; show L.length + 1 = if (lookP L n).isSome = true then _ else _; rw [HLK.out]; rfl); simp only [PgV] at hrun; have HM3 := Lib.hid hm3; have HO3 := Lib.hid ho3; have HA2 := Lib.hid ha2; have HB2 := Lib.hid (B1'.out.trans (hb2.mono B1'.out.size)); clear hm3 ho3 ha2 hb2 o2)
  all_goals
    obtain ⟨cur, hc, he⟩ := HA2.out.row
    have hne := HA2.out.ne
    have hg3 := HO3.out.2 g hne
    have HC := Lib.hid ((hg3.trans hc).trans (by rw [he]))
    have r3 := HA2.out.rowAt.keep hg3
    have d2 := r3.cell (j := 2) rfl
    have f2 := r3.open_ 2
    have lt1 := r3.lt
    have fin : ArAt B g bm c (n + 1) (insP ⟨n, 1, d⟩ L) (w3.setCell ⟨g, 2, none⟩ (.int .i64 (n + 1))) ∧ Tn g bm w (w3.setCell ⟨g, 2, none⟩ (.int .i64 (n + 1))) := by
      have ho := oth_cell g 2 w3 (.int .i64 (n + 1))
      have hnb : ∀ cur, w3.heap[g]? ≠ some (.cells cur 5 (0, 0)) := fun cu e => by
        rw [HC.out] at e
        simp at e
      refine ⟨H.out.ins_ HF.out HN.out rfl (by rw [HN.out]) ?_ (HM3.out.keep (ho.2 bm (fun e => hne e.symm)) (KpB.oth ho hnb)), ((Tn.of_below HB2.out).trans (Tn.of_map HO3.out)).trans (Tn.of_row ho)⟩
      rw [heap_setCell_same w3 g 2 _ _ _ HC.out]
      rfl
    have FIN := Lib.hid fin
    clear hc he hne hg3 r3 fin HC
    go_wp2
    go_ret2
    exact ⟨rfl, FIN.out⟩
theorem data_none {B g bm : Nat} {c lo : Int} {L : List Pg} {w : World} (h : ArAt B g bm c lo L w) (k : Int) (hk : InI k) (hp : lookP L k = none) :
    Calls Try.prog 15 #[.pointer (some ⟨g, 0, none⟩), .int .i64 k] w fun e w' => e = .returned (.tuple #[.slice none 0 0, .int .i64 8]) ∧ Below w.heap.size w w' := by
  have c1 := h.rowAt.cell (j := 1) rfl
  have hm := h.map.miss hk hp
  clear h hp
  go_enter Try.func15, Try.ntmps15
  go_wp2
  go_ret2
  exact ⟨rfl, b1 _⟩
theorem data_some {B g bm : Nat} {c lo : Int} {L : List Pg} {w : World} (h : ArAt B g bm c lo L w) (k : Int) (hk : InI k) {p : Pg} (hp : lookP L k = some p) (hd : p.d.length ≤ 1000000000000) :
    Calls Try.prog 15 #[.pointer (some ⟨g, 0, none⟩), .int .i64 k] w fun e w' => ∃ v, e = .returned (.tuple #[v, .int .i64 0]) ∧ Own w.heap.size p.d v w' ∧ Below w.heap.size w w' := by
  have c1 := h.rowAt.cell (j := 1) rfl
  obtain ⟨s, hs, hm⟩ := h.map.hit true hk hp
  have hpn := (look_some hp).2
  obtain ⟨a3, c3, rfl⟩ := hs.shape
  simp only [if_true, PgV, hpn] at hm
  have hcl := clone_any B p.d (.slice a3 p.d.length c3) _ (hs.alloc (.cells #[.int .i64 k, .int .i64 p.r, .slice a3 p.d.length c3] 54)) hd
  clear h hp hs hpn
  go_enter Try.func15, Try.ntmps15
  go_wp2_with (go_at_call 22; refine hcl.mono ?_; rintro e w2 ⟨v2, rfl, o2, hb2⟩; have O2 := Lib.hid o2; have B2 := Lib.hid hb2; clear o2 hb2)
  go_ret2
  exact ⟨_, rfl, O2.out.mono (by simp), (b1 _).trans (B2.out.mono (by simp))⟩
end Go.Proofs.Ytmnahnmkffndlaa
