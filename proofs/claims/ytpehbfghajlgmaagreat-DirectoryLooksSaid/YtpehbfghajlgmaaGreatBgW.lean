/- The law's spoil. -/
import Derived.Test.YtpehbfghajlgmaaGreatBgS
namespace Go.Proofs.YtpehbfghajlgmaaGreat
open Go.RowKit
set_option linter.unusedVariables false
set_option linter.unusedSimpArgs false
theorem set_self {α : Type} {l : List α} {i : Nat} {v : α} (h : l[i]? = some v) : l.set i v = l := by
  apply List.ext_getElem?
  intro j
  by_cases hj : i = j
  · subst hj
    have hl := (List.getElem?_eq_some_iff.1 h).1
    rw [List.getElem?_set_self hl, h]
  · rw [List.getElem?_set_ne hj]
theorem OwnBg.stored0 {B : Nat} {L : List Bg} {g cap : Nat} {w : World} (h : OwnBg B L (.slice (some ⟨g, 0, none⟩) L.length cap) w) {j : Nat} (hj : j < L.length) {c : ByteArray} (hx : c.size ≤ maxLen) :
    OwnBg B (L.set j ⟨c, (L.getD j Bg.z).r, (L.getD j Bg.z).k, (L.getD j Bg.z).s⟩) (.slice (some ⟨g, 0, none⟩) L.length cap) (w.setCell ⟨g, j * 4, none⟩ (Value.string c)) := by
  obtain ⟨hy, ho⟩ := h
  refine ⟨hy.set j ⟨hx, (hy.at_ j).2.1, (hy.at_ j).2.2.1, (hy.at_ j).2.2.2⟩, ?_⟩
  have h2 := (World.ownsRow.stored ho (j * 4) (Value.string c)).1
  rw [List.length_set, cellsBg_set]
  dsimp only
  obtain ⟨c0, c1, c2, c3⟩ := cellsBg_at hj
  rw [set_self (i := j * 4 + 1) (v := Value.int .i64 (L.getD j Bg.z).r) (by rw [List.getElem?_set_ne (by omega)]; exact c1)]
  rw [set_self (i := j * 4 + 2) (v := Value.int .i64 (L.getD j Bg.z).k) (by rw [List.getElem?_set_ne (by omega)]; exact c2)]
  rw [set_self (i := j * 4 + 3) (v := Value.int .i64 (L.getD j Bg.z).s) (by rw [List.getElem?_set_ne (by omega)]; exact c3)]
  exact h2
theorem OwnBg.stored1 {B : Nat} {L : List Bg} {g cap : Nat} {w : World} (h : OwnBg B L (.slice (some ⟨g, 0, none⟩) L.length cap) w) {j : Nat} (hj : j < L.length) {c : Int} (hx : -9223372036854775808 ≤ c ∧ c ≤ 9223372036854775807) :
    OwnBg B (L.set j ⟨(L.getD j Bg.z).n, c, (L.getD j Bg.z).k, (L.getD j Bg.z).s⟩) (.slice (some ⟨g, 0, none⟩) L.length cap) (w.setCell ⟨g, j * 4 + 1, none⟩ (Value.int .i64 c)) := by
  obtain ⟨hy, ho⟩ := h
  refine ⟨hy.set j ⟨(hy.at_ j).1, hx, (hy.at_ j).2.2.1, (hy.at_ j).2.2.2⟩, ?_⟩
  have h2 := (World.ownsRow.stored ho (j * 4 + 1) (Value.int .i64 c)).1
  rw [List.length_set, cellsBg_set]
  dsimp only
  obtain ⟨c0, c1, c2, c3⟩ := cellsBg_at hj
  rw [set_self (l := cellsBg L) (i := j * 4) c0]
  rw [set_self (i := j * 4 + 2) (v := Value.int .i64 (L.getD j Bg.z).k) (by rw [List.getElem?_set_ne (by omega)]; exact c2)]
  rw [set_self (i := j * 4 + 3) (v := Value.int .i64 (L.getD j Bg.z).s) (by rw [List.getElem?_set_ne (by omega)]; exact c3)]
  exact h2
theorem OwnBg.stored2 {B : Nat} {L : List Bg} {g cap : Nat} {w : World} (h : OwnBg B L (.slice (some ⟨g, 0, none⟩) L.length cap) w) {j : Nat} (hj : j < L.length) {c : Int} (hx : -9223372036854775808 ≤ c ∧ c ≤ 9223372036854775807) :
    OwnBg B (L.set j ⟨(L.getD j Bg.z).n, (L.getD j Bg.z).r, c, (L.getD j Bg.z).s⟩) (.slice (some ⟨g, 0, none⟩) L.length cap) (w.setCell ⟨g, j * 4 + 2, none⟩ (Value.int .i64 c)) := by
  obtain ⟨hy, ho⟩ := h
  refine ⟨hy.set j ⟨(hy.at_ j).1, (hy.at_ j).2.1, hx, (hy.at_ j).2.2.2⟩, ?_⟩
  have h2 := (World.ownsRow.stored ho (j * 4 + 2) (Value.int .i64 c)).1
  rw [List.length_set, cellsBg_set]
  dsimp only
  obtain ⟨c0, c1, c2, c3⟩ := cellsBg_at hj
  rw [set_self (l := cellsBg L) (i := j * 4) c0]
  rw [set_self (l := cellsBg L) (i := j * 4 + 1) c1]
  rw [set_self (i := j * 4 + 3) (v := Value.int .i64 (L.getD j Bg.z).s) (by rw [List.getElem?_set_ne (by omega)]; exact c3)]
  exact h2
/-- What spoil answers. -/
def SplPost (L : List Bg) (w : World) (e : Ending) (w' : World) : Prop := ∃ v M, e = .returned v ∧ RdBg M v w' ∧ M.length ≤ L.length + 1 ∧ Below w.heap.size w w'
set_option maxRecDepth 100000 in
set_option maxHeartbeats 2000000 in
theorem spoil_any (L : List Bg) (v : Value) (n : Int) (w : World) (hv : RdBg L v w) (hL : L.length ≤ 1000) :
    Calls Tryz.prog 7 #[v, .int .i64 n] w fun e w' => SplPost L w e w' := by
  obtain ⟨a, cap, rfl⟩ := hv.shape
  have HV := Lib.hid hv
  have HL := Lib.hid hL
  by_cases hl : L.length = 0
  · clear hv
    rw [hl] at HV ⊢
    go_enter Tryz.func7, Tryz.ntmps7
    go_wp2
    go_ret
    exact ⟨_, L, rfl, HV.out, by omega, Below.refl _ _⟩
  · have hl2 : ((L.length : Int) == 0) = false := beq_eq_false_iff_ne.2 (by omega)
    have m1 := bmask4 (n / 16)
    have m2 := bmask4 n
    have m3 := bmask2 (n / 256)
    have m4 := bmask3 (n / 256)
    have m5 := bmask4 (n / 256)
    have r1 : 0 ≤ n / 16 % 16 := by omega
    have r3 : 0 ≤ n / 256 % 4 ∧ n / 256 % 4 ≤ 3 := by omega
    have r4 : 0 ≤ n / 256 % 8 ∧ n / 256 % 8 ≤ 7 := by omega
    have r5 : 0 ≤ n / 256 % 16 ∧ n / 256 % 16 ≤ 15 := by omega
    generalize n / 16 % 16 = x1 at *
    generalize n / 256 % 4 = x3 at *
    generalize n / 256 % 8 = x4 at *
    generalize n / 256 % 16 = x5 at *
    obtain ⟨z, hz⟩ : ∃ z, n % 16 = z := ⟨_, rfl⟩
    rw [hz] at m2
    obtain ⟨i, hi, hil⟩ := tmod_nat r1 (n := L.length) (by omega)
    have hi0 : ¬ (L.length : Int) = 0 := by omega
    have hi1 : (i : Int) < (L.length : Int) := by omega
    have HIL := Lib.hid hil
    clear hv hz hl
    go_enter Tryz.func7, Tryz.ntmps7
    go_upto_region 4 with (at_builtin; refine wp_appBg rfl _ _ 22 rfl w.heap.size [] L _ _ rfl rfl (OwnBg.empty _ _) HV.out.src ?_ ?_ ?_; exact Nat.le_refl _; (have h7 := HL.out; simp <;> omega); intro v2 w2 ho2 hb2; have HO : Hid (OwnBg w.heap.size L v2 w2) := Lib.hid ho2; have B2 := Lib.hid hb2; clear ho2 hb2)
    obtain ⟨a2, c2, rfl⟩ := HO.out.rd.shape
    obtain ⟨g, rfl, hg, hg2, -, -, -⟩ := HO.out.block (by have := HIL.out; omega)
    have HG := Lib.hid hg
    obtain ⟨d0, d1, d2, d3⟩ := HO.out.cellsAt HIL.out
    have f0 := HO.out.frozen (i * 4)
    have f1 := HO.out.frozen (i * 4 + 1)
    have f2 := HO.out.frozen (i * 4 + 2)
    have f3 := HO.out.frozen (i * 4 + 3)
    have HOK := Lib.hid (HO.out.1.at_ i)
    obtain ⟨y, hy⟩ : ∃ y, L.getD i Bg.z = y := ⟨_, rfl⟩
    have HY := Lib.hid hy
    rw [hy] at d0 d1 d2 d3 HOK
    clear hy hg
    obtain ⟨ym, yr, yk, ys⟩ := y
    simp only at d0 d1 d2 d3
    by_cases z0 : z = 0
    · subst z0
      have HA : Hid (∀ (t : ByteArray) (o : Obj), t.size ≤ maxLen → RdBg (L.set i ⟨t, yr, yk, ys⟩) (.slice (some ⟨g, 0, none⟩) L.length c2) ((w2.setCell ⟨g, i * 4, none⟩ (.string t)).alloc o)) := Lib.hid (fun t o ht => by
        have h := ((HO.out.stored0 HIL.out ht).alloc o).rd
        rw [HY.out] at h
        exact h)
      have hx3 : x3 = 0 ∨ x3 = 1 ∨ x3 = 2 ∨ x3 = 3 := by omega
      rcases hx3 with rfl | rfl | rfl | rfl
      · go_wp2
        go_ret
        exact ⟨_, _, rfl, HA.out ⟨#[]⟩ _ (by decide), by simp, bal (bset B2.out _ _ _ HG.out) _⟩
      · go_wp2
        go_ret
        exact ⟨_, _, rfl, HA.out ⟨#[65]⟩ _ (by decide), by simp, bal (bset B2.out _ _ _ HG.out) _⟩
      · go_wp2
        go_ret
        exact ⟨_, _, rfl, HA.out ⟨#[97]⟩ _ (by decide), by simp, bal (bset B2.out _ _ _ HG.out) _⟩
      · go_wp2
        go_ret
        exact ⟨_, _, rfl, HA.out ⟨#[99]⟩ _ (by decide), by simp, bal (bset B2.out _ _ _ HG.out) _⟩
    · by_cases z1 : z = 1
      · subst z1
        have hst := (HO.out.stored1 HIL.out (c := x4 - 1) (by omega)).rd
        rw [HY.out] at hst
        have HST := Lib.hid hst
        clear hst
        go_wp2
        go_ret
        exact ⟨_, _, rfl, HST.out, by simp, bset B2.out _ _ _ HG.out⟩
      · by_cases z2 : z = 2
        · subst z2
          have hst := (HO.out.stored2 HIL.out (c := x5 - 1) (by omega)).rd
          rw [HY.out] at hst
          have HST := Lib.hid hst
          clear hst
          go_wp2
          go_ret
          exact ⟨_, _, rfl, HST.out, by simp, bset B2.out _ _ _ HG.out⟩
        · by_cases z3 : z = 3
          · subst z3
            have hst := (HO.out.storedT HIL.out (c := x5 - 1) (by omega)).rd
            rw [HY.out] at hst
            have HST := Lib.hid hst
            clear hst
            go_wp2
            go_ret
            exact ⟨_, _, rfl, HST.out, by simp, bset B2.out _ _ _ HG.out⟩
          · by_cases z4 : z = 4
            · subst z4
              go_wp2_with (at_builtin; refine wp_appBg rfl _ _ 22 rfl w.heap.size L [⟨ym, yr, yk, ys⟩] _ _ rfl rfl (HO.out.alloc _) (OwnBg.one HOK.out w2).rd.src ?_ ?_ ?_; (have h7 := B2.out.size; simp; omega); (have h7 := HL.out; simp; omega); intro v5 w5 ho5 hb5; have HO5 := Lib.hid ho5.rd; have B5 := Lib.hid ((bal B2.out _).trans hb5); clear ho5 hb5)
              go_ret
              exact ⟨_, _, rfl, HO5.out, by simp, B5.out⟩
            · have b0 : (z == 0) = false := by simpa using z0
              have b1' : (z == 1) = false := by simpa using z1
              have b2' : (z == 2) = false := by simpa using z2
              have b3' : (z == 3) = false := by simpa using z3
              have b4' : (z == 4) = false := by simpa using z4
              go_wp2
              go_ret
              exact ⟨_, _, rfl, HO.out.rd, by simp, B2.out⟩
end Go.Proofs.YtpehbfghajlgmaaGreat
