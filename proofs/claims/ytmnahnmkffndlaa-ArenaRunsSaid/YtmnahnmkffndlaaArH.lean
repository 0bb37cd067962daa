/- The contracts of Hold and Release. -/
import Derived.Test.YtmnahnmkffndlaaArN
import Derived.RegionTactic
import Derived.Deep.CutRange
namespace Go.Proofs.Ytmnahnmkffndlaa
open Go.RowKit Go.Maps
set_option linter.unusedVariables false
set_option linter.unusedSimpArgs false
/-- What an arena is behind a change of a page's references. -/
theorem ArAt.set_ {B g bm : Nat} {c lo : Int} {L : List Pg} {w w' : World} (h : ArAt B g bm c lo L w) {p q : Pg} (hp : lookP L q.n = some p) (hq : 1 ≤ q.r ∧ q.r ≤ 4611686018427387904) (hg : w'.heap[g]? = w.heap[g]?) (hm : MapAt B bm (setP L q) w') : ArAt B g bm c lo (setP L q) w' := by
  obtain ⟨cur, hc, he⟩ := h.row
  have hpm := look_some hp
  refine ⟨⟨cur, hg.trans hc, he⟩, hm, setP_asc q h.asc, fun x hx => ?_, by rw [setP_len]; exact h.cap, fun x hx => ?_, h.low.1, ?_⟩
  · obtain ⟨y, hy, rfl⟩ := List.mem_map.1 hx
    split
    · exact hq
    · exact h.refs y hy
  · obtain ⟨y, hy, rfl⟩ := List.mem_map.1 hx
    split
    · have := h.num p hpm.1
      omega
    · exact h.num y hy
  · rcases Int.lt_or_le (frN 1 (setP L q)) lo with hlt | hle
    · exfalso
      obtain ⟨y, hy⟩ := frN_some (j := frN 1 (setP L q)) h.asc (frN_le _ _).1 (by have := h.low.2; omega)
      have hn := frN_none (setP_asc q h.asc)
      rw [look_set, hy] at hn
      split at hn
      · simp at hn
      · cases hn
    · exact hle
set_option maxRecDepth 100000 in
theorem hold_none {B g bm : Nat} {c lo : Int} {L : List Pg} {w : World} (h : ArAt B g bm c lo L w) (k : Int) (hk : InI k) (hp : lookP L k = none) :
    Calls Try.prog 11 #[.pointer (some ⟨g, 0, none⟩), .int .i64 k] w fun e w' => e = .returned (.int .i64 8) ∧ Below w.heap.size w w' := by
  have c1 := h.rowAt.cell (j := 1) rfl
  have hm := h.map.miss hk hp
  clear h hp
  go_enter Try.func11, Try.ntmps11
  go_wp2
  go_ret
  exact ⟨rfl, b1 _⟩
set_option maxRecDepth 100000 in
theorem hold_some {B g bm : Nat} {c lo : Int} {L : List Pg} {w : World} (h : ArAt B g bm c lo L w) (k : Int) (hk : InI k) {p : Pg} (hp : lookP L k = some p) (hr : p.r < 4611686018427387904) :
    Calls Try.prog 11 #[.pointer (some ⟨g, 0, none⟩), .int .i64 k] w fun e w' => e = .returned (.int .i64 0) ∧ ArAt B g bm c lo (setP L ⟨k, p.r + 1, p.d⟩) w' ∧ Tn g bm w w' := by
  have H := Lib.hid h
  have c1 := h.rowAt.cell (j := 1) rfl
  obtain ⟨s, hs, hm⟩ := h.map.hit true hk hp
  have hpn := (look_some hp).2
  have hr1 := h.refs p (look_some hp).1
  have HS := Lib.hid hs
  obtain ⟨a3, c3, rfl⟩ := hs.shape
  simp only [if_true, PgV, hpn] at hm
  have hl := h.lt
  have HP := Lib.hid hp
  clear h hp hs hpn
  go_enter Try.func11, Try.ntmps11
  go_upto_region 5 with (fail)
  refine wp_genW (fun w1 => RowAt w.heap.size #[.int .i64 k, .int .i64 (p.r + 1), .slice a3 p.d.length c3] w1 ∧ Below w.heap.size w w1) ?_ ?_
  · exact ⟨RowAt.new w _ _, b1 _⟩
  rintro w1 ⟨r1, hb1⟩
  have ha := (H.out.below hb1).below (w' := w1.drew) (below_drew (Below.refl _ _))
  have HA := Lib.hid ha
  have B1 := Lib.hid (below_drew hb1)
  have d1 : w1.cell? ⟨g, 1, none⟩ = some (.map (some bm)) := ha.rowAt.cell (j := 1) rfl
  have e0 := r1.cell (j := 0) rfl
  have e1 := r1.cell (j := 1) rfl
  have e2 := r1.cell (j := 2) rfl
  obtain ⟨w2, hrun, hm2, ho2⟩ := ha.map.put (p := ⟨k, p.r + 1, p.d⟩) (L' := setP L ⟨k, p.r + 1, p.d⟩) (HS.out.kpb (KpB.below B1.out)) hk (by have := ha.cap; omega)
    (fun j => by
      rw [look_set]
      by_cases hj : j = k
      · subst hj; simp [HP.out]
      · simp [hj])
    (by rw [setP_len]; simp [HP.out])
  have HM := Lib.hid hm2
  have HO := Lib.hid ho2
  simp only [PgV] at hrun
  clear ha r1 hb1 hm hm2 ho2
  go_region
  all_goals
    go_wp2
    go_ret
    refine ⟨rfl, HA.out.set_ HP.out ⟨by show 1 ≤ p.r + 1; omega, by show p.r + 1 ≤ 4611686018427387904; omega⟩ (HO.out.2 g HA.out.ne) HM.out, (Tn.of_below B1.out).trans (Tn.of_map HO.out)⟩
/-- What an arena is behind the removal of a page. -/
theorem ArAt.del_ {B g bm : Nat} {c lo : Int} {L : List Pg} {w w' : World} (h : ArAt B g bm c lo L w) {k : Int} {p : Pg} (hp : lookP L k = some p) (hg : w'.heap[g]? = some (.cells #[.int .i64 c, .map (some bm), .int .i64 (min lo k)] 58 (0, 0))) (hm : MapAt B bm (delP L k) w') :
    ArAt B g bm c (min lo k) (delP L k) w' := by
  have hpm := look_some hp
  have hlow := h.asc.low p hpm.1
  have hlen := delP_len h.asc hp
  refine ⟨⟨_, hg, rfl⟩, hm, delP_asc k h.asc, fun x hx => h.refs x (List.mem_filter.1 hx).1, ?_, fun x hx => h.num x (List.mem_filter.1 hx).1, ?_, ?_⟩
  · have := h.cap
    omega
  · have := h.low.1
    omega
  · rcases Int.lt_or_le (frN 1 (delP L k)) (min lo k) with hlt | hle
    · exfalso
      obtain ⟨y, hy⟩ := frN_some (j := frN 1 (delP L k)) h.asc (frN_le _ _).1 (by have := h.low.2; omega)
      have hn := frN_none (delP_asc k h.asc)
      rw [look_del, hy, if_neg (by omega)] at hn
      cases hn
    · exact hle
set_option maxRecDepth 100000 in
theorem remove_any {B g bm : Nat} {c lo : Int} {L : List Pg} {w : World} (h : ArAt B g bm c lo L w) (k : Int) (hk : InI k) {p : Pg} (hp : lookP L k = some p) :
    Calls Try.prog 24 #[.pointer (some ⟨g, 0, none⟩), .int .i64 k] w fun e w' => e = .returned (.tuple #[]) ∧ ArAt B g bm c (min lo k) (delP L k) w' ∧ Tn g bm w w' := by
  have H := Lib.hid h
  have c1 := h.rowAt.cell (j := 1) rfl
  obtain ⟨w1, hrun, hm1, ho1⟩ := h.map.del hk h.asc hp 0
  have hne := h.ne
  have HM := Lib.hid hm1
  have HO := Lib.hid ho1
  have r1 := h.rowAt.keep (ho1.2 g hne)
  have d2 := r1.cell (j := 2) rfl
  have f2 := r1.open_ 2
  have lt1 := r1.lt
  have HR := Lib.hid r1
  have HP := Lib.hid hp
  have hlo := h.low
  have hcap := h.cap
  have hnum := h.num p (look_some hp).1
  have hpn := (look_some hp).2
  have hf := (frN_le L 1).2
  obtain ⟨cur, hc, he⟩ := h.row
  have HC := Lib.hid (((ho1.2 g hne).trans hc).trans (by rw [he]))
  have fin : ∀ v : Int, v = min lo k → ArAt B g bm c (min lo k) (delP L k) (w1.setCell ⟨g, 2, none⟩ (.int .i64 v)) ∧ Tn g bm w (w1.setCell ⟨g, 2, none⟩ (.int .i64 v)) := by
    rintro v rfl
    have ho := oth_cell g 2 w1 (.int .i64 (min lo k))
    have hnb : ∀ cur, w1.heap[g]? ≠ some (.cells cur 5 (0, 0)) := fun cu e => by
      rw [HC.out] at e
      simp at e
    refine ⟨h.del_ hp ?_ (hm1.keep (ho.2 bm (fun e => hne e.symm)) (KpB.oth ho hnb)), (Tn.of_map ho1).trans (Tn.of_row ho)⟩
    rw [heap_setCell_same w1 g 2 _ _ _ HC.out]
    rfl
  have FIN := Lib.hid fin
  clear h hp hm1 ho1 r1 hc fin
  go_enter Try.func24, Try.ntmps24
  go_wp2
  all_goals
    go_end0
    exact ⟨rfl, FIN.out _ (by omega)⟩
set_option maxRecDepth 100000 in
theorem rel_none {B g bm : Nat} {c lo : Int} {L : List Pg} {w : World} (h : ArAt B g bm c lo L w) (k : Int) (hk : InI k) (hp : lookP L k = none) :
    Calls Try.prog 13 #[.pointer (some ⟨g, 0, none⟩), .int .i64 k] w fun e w' => e = .returned (.tuple #[.bool false, .int .i64 8]) ∧ Below w.heap.size w w' := by
  have c1 := h.rowAt.cell (j := 1) rfl
  have hm := h.map.miss hk hp
  clear h hp
  go_enter Try.func13, Try.ntmps13
  go_wp2
  go_ret2
  exact ⟨rfl, b1 _⟩
set_option maxRecDepth 100000 in
theorem rel_last {B g bm : Nat} {c lo : Int} {L : List Pg} {w : World} (h : ArAt B g bm c lo L w) (k : Int) (hk : InI k) {p : Pg} (hp : lookP L k = some p) (hr : p.r = 1) :
    Calls Try.prog 13 #[.pointer (some ⟨g, 0, none⟩), .int .i64 k] w fun e w' => e = .returned (.tuple #[.bool true, .int .i64 0]) ∧ ArAt B g bm c (min lo k) (delP L k) w' ∧ Tn g bm w w' := by
  have H := Lib.hid h
  have c1 := h.rowAt.cell (j := 1) rfl
  obtain ⟨s, hs, hm⟩ := h.map.hit true hk hp
  have hpn := (look_some hp).2
  have HP := Lib.hid hp
  obtain ⟨a3, c3, rfl⟩ := hs.shape
  simp only [if_true, PgV, hpn, hr] at hm
  have hl := h.lt
  have hrm := remove_any (h.below (b1 (.cells #[.int .i64 k, .int .i64 1, .slice a3 p.d.length c3] 54))) k hk hp
  clear h hp hs hpn
  go_enter Try.func13, Try.ntmps13
  go_wp2_with (go_at_call 24; refine hrm.mono ?_; rintro e w2 ⟨rfl, ha2, ht2⟩; have HA := Lib.hid ha2; have HT := Lib.hid ht2; clear ha2 ht2)
  go_ret2
  exact ⟨rfl, HA.out, (Tn.of_below (b1 _)).trans HT.out⟩
set_option maxRecDepth 100000 in
theorem rel_some {B g bm : Nat} {c lo : Int} {L : List Pg} {w : World} (h : ArAt B g bm c lo L w) (k : Int) (hk : InI k) {p : Pg} (hp : lookP L k = some p) (hr : p.r ≠ 1) :
    Calls Try.prog 13 #[.pointer (some ⟨g, 0, none⟩), .int .i64 k] w fun e w' => e = .returned (.tuple #[.bool false, .int .i64 0]) ∧ ArAt B g bm c lo (setP L ⟨k, p.r - 1, p.d⟩) w' ∧ Tn g bm w w' := by
  have H := Lib.hid h
  have c1 := h.rowAt.cell (j := 1) rfl
  obtain ⟨s, hs, hm⟩ := h.map.hit true hk hp
  have hpn := (look_some hp).2
  have hr1 := h.refs p (look_some hp).1
  have HS := Lib.hid hs
  obtain ⟨a3, c3, rfl⟩ := hs.shape
  simp only [if_true, PgV, hpn] at hm
  have hl := h.lt
  have HP := Lib.hid hp
  clear h hp hs hpn
  go_enter Try.func13, Try.ntmps13
  go_upto_region 8 with (fail)
  refine wp_genW (fun w1 => RowAt w.heap.size #[.int .i64 k, .int .i64 (p.r - 1), .slice a3 p.d.length c3] w1 ∧ Below w.heap.size w w1) ?_ ?_
  · exact ⟨RowAt.new w _ _, b1 _⟩
  rintro w1 ⟨r1, hb1⟩
  have ha := (H.out.below hb1).below (w' := w1.drew) (below_drew (Below.refl _ _))
  have HA := Lib.hid ha
  have B1 := Lib.hid (below_drew hb1)
  have d1 : w1.cell? ⟨g, 1, none⟩ = some (.map (some bm)) := ha.rowAt.cell (j := 1) rfl
  have e0 := r1.cell (j := 0) rfl
  have e1 := r1.cell (j := 1) rfl
  have e2 := r1.cell (j := 2) rfl
  obtain ⟨w2, hrun, hm2, ho2⟩ := ha.map.put (p := ⟨k, p.r - 1, p.d⟩) (L' := setP L ⟨k, p.r - 1, p.d⟩) (HS.out.kpb (KpB.below B1.out)) hk (by have := ha.cap; omega)
    (fun j => by
      rw [look_set]
      by_cases hj : j = k
      · subst hj; simp [HP.out]
      · simp [hj])
    (by rw [setP_len]; simp [HP.out])
  have HM := Lib.hid hm2
  have HO := Lib.hid ho2
  simp only [PgV] at hrun
  clear ha r1 hb1 hm hm2 ho2
  go_region
  all_goals
    go_wp2
    go_ret2
    refine ⟨rfl, HA.out.set_ HP.out ⟨by show 1 ≤ p.r - 1; omega, by show p.r - 1 ≤ 4611686018427387904; omega⟩ (HO.out.2 g HA.out.ne) HM.out, (Tn.of_below B1.out).trans (Tn.of_map HO.out)⟩
end Go.Proofs.Ytmnahnmkffndlaa
