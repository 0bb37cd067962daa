/- The arena's calls and the reference's, each under one contract: what comes of them in numbers. -/
import Derived.Test.YtmnahnmkffndlaaKn15
import Derived.Test.YtmnahnmkffndlaaArD
import Derived.Test.YtmnahnmkffndlaaRfB
import Derived.Test.YtmnahnmkffndlaaByO
namespace Go.Proofs.Ytmnahnmkffndlaa
open Go.RowKit Go.Maps
set_option linter.unusedVariables false
set_option linter.unusedSimpArgs false
/-- Alloc: the error, the number, the pages. -/
def alF (L : List Pg) (c : Int) (d : List Int) : Int := if 1024 < d.length then 11 else if (L.length : Int) = c then 14 else 0
def alX (L : List Pg) (c : Int) (d : List Int) : Int := if alF L c d = 0 then frN 1 L else 0
def alL (L : List Pg) (c : Int) (d : List Int) : List Pg := if alF L c d = 0 then insP ⟨frN 1 L, 1, d⟩ L else L
/-- Hold: the error, the pages. -/
def hoF (L : List Pg) (k : Int) : Int := if (lookP L k).isSome then 0 else 8
def hoL (L : List Pg) (k : Int) : List Pg := match lookP L k with
  | some p => setP L ⟨k, p.r + 1, p.d⟩
  | none => L
/-- Release: freed, the error, the pages. -/
def reB (L : List Pg) (k : Int) : Bool := match lookP L k with
  | some p => decide (p.r = 1)
  | none => false
def reL (L : List Pg) (k : Int) : List Pg := match lookP L k with
  | some p => if p.r = 1 then delP L k else setP L ⟨k, p.r - 1, p.d⟩
  | none => L
/-- Data: the bytes. -/
def daD (L : List Pg) (k : Int) : List Int := match lookP L k with
  | some p => p.d
  | none => []
/-- What a run keeps: few bytes in a page, at most R references. -/
def Gd (R : Int) (L : List Pg) : Prop := ∀ p ∈ L, p.d.length ≤ 1024 ∧ 1 ≤ p.r ∧ p.r ≤ R
theorem Gd.nil (R : Int) : Gd R [] := fun p hp => by cases hp
theorem Gd.mono {R R' : Int} {L : List Pg} (h : Gd R L) (hR : R ≤ R') : Gd R' L := fun p hp => ⟨(h p hp).1, (h p hp).2.1, by have := (h p hp).2.2; omega⟩
theorem Gd.al {R : Int} {L : List Pg} (h : Gd R L) (hR : 1 ≤ R) (c : Int) (d : List Int) : Gd R (alL L c d) := by
  unfold alL
  split
  · rename_i he
    intro p hp
    rcases insP_mem hp with rfl | hp
    · refine ⟨?_, Int.le_refl _, hR⟩
      unfold alF at he
      split at he
      · cases he
      · rename_i hn
        show d.length ≤ 1024
        omega
    · exact h p hp
  · exact h
theorem Gd.ho {R : Int} {L : List Pg} (h : Gd R L) (k : Int) : Gd (R + 1) (hoL L k) := by
  unfold hoL
  cases hl : lookP L k with
  | none => exact h.mono (by omega)
  | some q =>
    intro p hp
    obtain ⟨y, hy, rfl⟩ := List.mem_map.1 hp
    have hq := h q (look_some hl).1
    split
    · exact ⟨hq.1, by show 1 ≤ q.r + 1; omega, by show q.r + 1 ≤ R + 1; omega⟩
    · have := h y hy
      exact ⟨this.1, this.2.1, by omega⟩
theorem Gd.re {R : Int} {L : List Pg} (h : Gd R L) (k : Int) : Gd R (reL L k) := by
  unfold reL
  cases hl : lookP L k with
  | none => exact h
  | some q =>
    dsimp only
    have hq := h q (look_some hl).1
    split
    · exact fun p hp => h p (List.mem_filter.1 hp).1
    · rename_i hr
      intro p hp
      obtain ⟨y, hy, rfl⟩ := List.mem_map.1 hp
      split
      · exact ⟨hq.1, by show 1 ≤ q.r - 1; omega, by show q.r - 1 ≤ R; omega⟩
      · exact h y hy
theorem palloc_any {B g bm : Nat} {c lo : Int} {L : List Pg} {w : World} (h : ArAt B g bm c lo L w) (B0 : Nat) (d : List Int) (v : Value) (hv : Own B0 d v w) (hd : d.length ≤ 1000000000000) (hB : B ≤ w.heap.size) :
    Calls Try.prog 9 #[.pointer (some ⟨g, 0, none⟩), v] w fun e w' => ∃ lo', e = .returned (.tuple #[.int .i64 (alX L c d), .int .i64 (alF L c d)]) ∧ ArAt B g bm c lo' (alL L c d) w' ∧ Tn g bm w w' := by
  unfold alX alL
  by_cases h1 : 1024 < d.length
  · have e : alF L c d = 11 := by unfold alF; rw [if_pos h1]
    rw [e]
    obtain ⟨a, cap, rfl⟩ := hv.shape
    refine (alloc_big h d a cap h1 hd).mono ?_
    rintro e w' ⟨rfl, rfl⟩
    exact ⟨lo, rfl, h, Tn.refl _ _ _⟩
  · by_cases h2 : (L.length : Int) = c
    · have e : alF L c d = 14 := by unfold alF; rw [if_neg h1, if_pos h2]
      rw [e]
      obtain ⟨a, cap, rfl⟩ := hv.shape
      refine (alloc_full h d a cap (by omega) h2).mono ?_
      rintro e w' ⟨rfl, hb⟩
      exact ⟨lo, rfl, h.below hb, Tn.of_below hb⟩
    · have e : alF L c d = 0 := by unfold alF; rw [if_neg h1, if_neg h2]
      rw [e]
      refine (alloc_ok h B0 d v hv (by omega) h2 hB).mono ?_
      rintro e w' ⟨rfl, h3, h4⟩
      exact ⟨_, rfl, h3, h4⟩
theorem phold_any {B g bm : Nat} {c lo : Int} {L : List Pg} {w : World} (h : ArAt B g bm c lo L w) (k : Int) (hk : InI k) {R : Int} (hg : Gd R L) (hR : R < 4611686018427387904) :
    Calls Try.prog 11 #[.pointer (some ⟨g, 0, none⟩), .int .i64 k] w fun e w' => e = .returned (.int .i64 (hoF L k)) ∧ ArAt B g bm c lo (hoL L k) w' ∧ Tn g bm w w' := by
  unfold hoF hoL
  cases hl : lookP L k with
  | none =>
    refine (hold_none h k hk hl).mono ?_
    rintro e w' ⟨rfl, hb⟩
    exact ⟨rfl, h.below hb, Tn.of_below hb⟩
  | some p => exact hold_some h k hk hl (by have := (hg p (look_some hl).1).2.2; omega)
theorem prel_any {B g bm : Nat} {c lo : Int} {L : List Pg} {w : World} (h : ArAt B g bm c lo L w) (k : Int) (hk : InI k) :
    Calls Try.prog 13 #[.pointer (some ⟨g, 0, none⟩), .int .i64 k] w fun e w' => ∃ lo', e = .returned (.tuple #[.bool (reB L k), .int .i64 (hoF L k)]) ∧ ArAt B g bm c lo' (reL L k) w' ∧ Tn g bm w w' := by
  unfold reB hoF reL
  cases hl : lookP L k with
  | none =>
    refine (rel_none h k hk hl).mono ?_
    rintro e w' ⟨rfl, hb⟩
    exact ⟨lo, rfl, h.below hb, Tn.of_below hb⟩
  | some p =>
    dsimp only
    by_cases hr : p.r = 1
    · rw [decide_eq_true hr, if_pos hr]
      refine (rel_last h k hk hl hr).mono ?_
      rintro e w' ⟨rfl, h3, h4⟩
      exact ⟨_, rfl, h3, h4⟩
    · rw [decide_eq_false hr, if_neg hr]
      refine (rel_some h k hk hl hr).mono ?_
      rintro e w' ⟨rfl, h3, h4⟩
      exact ⟨_, rfl, h3, h4⟩
theorem pdata_any {B g bm : Nat} {c lo : Int} {L : List Pg} {w : World} (h : ArAt B g bm c lo L w) (k : Int) (hk : InI k) {R : Int} (hg : Gd R L) :
    Calls Try.prog 15 #[.pointer (some ⟨g, 0, none⟩), .int .i64 k] w fun e w' => ∃ v, e = .returned (.tuple #[v, .int .i64 (hoF L k)]) ∧ Own w.heap.size (daD L k) v w' ∧ Below w.heap.size w w' := by
  unfold hoF daD
  cases hl : lookP L k with
  | none =>
    refine (data_none h k hk hl).mono ?_
    rintro e w' ⟨rfl, hb⟩
    exact ⟨_, rfl, Own.empty _ _, hb⟩
  | some p => exact data_some h k hk hl (by have := (hg p (look_some hl).1).1; omega)
theorem ralloc_any (M : List PM) (L : List Pg) (c : Int) (v : Value) (w : World) (B0 : Nat) (d : List Int) (u : Value) (hv : OwnPM 0 M v w) (hp : PmAt 0 M L w) (ha : AscP 1 L) (hL : (L.length : Int) ≤ c) (hc : c ≤ 16384) (hu : Own B0 d u w) (hd : d.length ≤ 1000000000000) :
    Calls Try.prog 10 #[.agg #[.int .i64 c, v], u] w fun e w' => ∃ v' M', e = .returned (.tuple #[.agg #[.int .i64 c, v'], .int .i64 (alX L c d), .int .i64 (alF L c d)]) ∧ OwnPM 0 M' v' w' ∧ PmAt 0 M' (alL L c d) w' ∧ Below w.heap.size w w' := by
  unfold alX alL
  by_cases h1 : 1024 < d.length
  · have e : alF L c d = 11 := by unfold alF; rw [if_pos h1]
    rw [e]
    obtain ⟨a, cap, rfl⟩ := hu.shape
    refine (ralloc_big M L c v w d a cap hv h1 hd).mono ?_
    rintro e w' ⟨rfl, hb⟩
    exact ⟨_, M, rfl, hv.below hb, hp.kpb (KpB.below hb), hb⟩
  · by_cases h2 : (L.length : Int) = c
    · have e : alF L c d = 14 := by unfold alF; rw [if_neg h1, if_pos h2]
      rw [e]
      obtain ⟨a, cap, rfl⟩ := hu.shape
      refine (ralloc_full M L c v w d a cap hv hp (by omega) (by omega)).mono ?_
      rintro e w' ⟨rfl, hb⟩
      exact ⟨_, M, rfl, hv.below hb, hp.kpb (KpB.below hb), hb⟩
    · have e : alF L c d = 0 := by unfold alF; rw [if_neg h1, if_neg h2]
      rw [e]
      exact ralloc_ok M L c v w B0 d u hv hp ha (by omega) hu (by omega) (by omega)
theorem rhold_any (M : List PM) (L : List Pg) (c k : Int) (v : Value) (w : World) (hv : OwnPM 0 M v w) (hp : PmAt 0 M L w) (ha : AscP 1 L) (hL : L.length ≤ 1000000) {R : Int} (hg : Gd R L) (hR : R < 4611686018427387904) :
    Calls Try.prog 12 #[.agg #[.int .i64 c, v], .int .i64 k] w fun e w' => ∃ v' M', e = .returned (.tuple #[.agg #[.int .i64 c, v'], .int .i64 (hoF L k)]) ∧ OwnPM 0 M' v' w' ∧ PmAt 0 M' (hoL L k) w' ∧ Below w.heap.size w w' := by
  unfold hoF hoL
  cases hl : lookP L k with
  | none =>
    refine (rhold_none M L c k 1 v w hv hp ha hL hl).mono ?_
    rintro e w' ⟨rfl, hb⟩
    exact ⟨_, M, rfl, hv.below hb, hp.kpb (KpB.below hb), hb⟩
  | some p => exact rhold_some M L c k 1 v w hv hp ha hL hl (by have := hg p (look_some hl).1; omega)
theorem rrel_any (M : List PM) (L : List Pg) (c k : Int) (v : Value) (w : World) (hv : OwnPM 0 M v w) (hp : PmAt 0 M L w) (ha : AscP 1 L) (hL : L.length ≤ 1000000) {R : Int} (hg : Gd R L) (hR : R < 4611686018427387904) :
    Calls Try.prog 14 #[.agg #[.int .i64 c, v], .int .i64 k] w fun e w' => ∃ v' M', e = .returned (.tuple #[.agg #[.int .i64 c, v'], .bool (reB L k), .int .i64 (hoF L k)]) ∧ OwnPM 0 M' v' w' ∧ PmAt 0 M' (reL L k) w' ∧ Below w.heap.size w w' := by
  unfold reB hoF reL
  cases hl : lookP L k with
  | none =>
    refine (rrel_none M L c k 1 v w hv hp ha hL hl).mono ?_
    rintro e w' ⟨rfl, hb⟩
    exact ⟨_, M, rfl, hv.below hb, hp.kpb (KpB.below hb), hb⟩
  | some p =>
    dsimp only
    have hgp := hg p (look_some hl).1
    by_cases hr : p.r = 1
    · rw [decide_eq_true hr, if_pos hr]
      refine (rrel_last M L c k 1 v w hv hp ha hL hl hr).mono ?_
      rintro e w' ⟨v', M', rfl, h1, h2, h3⟩
      exact ⟨v', M', rfl, h1, h2, h3⟩
    · rw [decide_eq_false hr, if_neg hr]
      exact rrel_some M L c k 1 v w hv hp ha hL hl (by omega)
theorem rdata_any (M : List PM) (L : List Pg) (c k : Int) (v : Value) (w : World) (hv : OwnPM 0 M v w) (hp : PmAt 0 M L w) (ha : AscP 1 L) (hL : L.length ≤ 1000000) {R : Int} (hg : Gd R L) :
    Calls Try.prog 16 #[.agg #[.int .i64 c, v], .int .i64 k] w fun e w' => ∃ u, e = .returned (.tuple #[u, .int .i64 (hoF L k)]) ∧ Own w.heap.size (daD L k) u w' ∧ Below w.heap.size w w' := by
  unfold hoF daD
  cases hl : lookP L k with
  | none =>
    refine (rdata_none M L c k 1 v w hv hp ha hL hl).mono ?_
    rintro e w' ⟨rfl, hb⟩
    exact ⟨_, rfl, Own.empty _ _, hb⟩
  | some p => exact rdata_some M L c k 1 v w hv hp ha hL hl (by have := (hg p (look_some hl).1).1; omega)
end Go.Proofs.Ytmnahnmkffndlaa
