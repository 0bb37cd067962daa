/- The contract of the reference's Sort. -/
import Derived.Test.YtmmdnomfpfcjiaaSrtN
namespace Go.Proofs.Ytmmdnomfpfcjiaa
open Go.RowKit
set_option linter.unusedVariables false
set_option linter.unusedSimpArgs false
theorem OwnE.go {B : Nat} {L : List Ent} {v : Value} {w w' : World} (h : OwnE B L v w) (hb : Below w.heap.size w w') : OwnE B L v w' := h.below hb
/-- The state of a sort: C lies in block g, and goes on to Z. -/
def SrtS (W : World) (C : List Ent) (g n cap : Nat) (w : World) : Prop := OwnE W.heap.size C (.slice (some ⟨g, 0, none⟩) C.length cap) w ∧ Below W.heap.size W w ∧ C.length = n
theorem OwnE.ge {B : Nat} {L : List Ent} {g n cap : Nat} {w : World} (h : OwnE B L (.slice (some ⟨g, 0, none⟩) n cap) w) : B ≤ g := by
  rcases h.2.2 with ⟨he, _⟩ | ⟨g', cap', cur, he, hb, _⟩
  · cases he
  · simp only [Value.slice.injEq, Option.some.injEq, Addr.mk.injEq] at he
    obtain ⟨⟨rfl, _⟩, _⟩ := he
    exact hb
theorem bsetB {B : Nat} {a w : World} (h : Below B a w) (k o : Nat) (v : Value) (hk : B ≤ k) : Below B a (w.setCell ⟨k, o, none⟩ v) := h.setCell (p := ⟨k, o, none⟩) hk v
/-- What the exchange of two neighbours leaves. -/
theorem swp_own {B g cap q : Nat} {C : List Ent} {W w : World} {X Y : Ent} (h : OwnE B C (.slice (some ⟨g, 0, none⟩) C.length cap) w) (hb : Below B W w) (hX : X.ok) (hY : Y.ok) (hs : swp C (q + 1) = (C.set (q + 1) Y).set q X) :
    OwnE B (swp C (q + 1)) (.slice (some ⟨g, 0, none⟩) (swp C (q + 1)).length cap) ((((((w.setCell ⟨g, (q + 1) * 3, none⟩ (.string Y.k)).setCell ⟨g, (q + 1) * 3 + 1, none⟩ (.int .i64 Y.c)).setCell ⟨g, (q + 1) * 3 + 2, none⟩ (.int .i64 Y.e)).setCell
      ⟨g, q * 3, none⟩ (.string X.k)).setCell ⟨g, q * 3 + 1, none⟩ (.int .i64 X.c)).setCell ⟨g, q * 3 + 2, none⟩ (.int .i64 X.e)) ∧
    Below B W ((((((w.setCell ⟨g, (q + 1) * 3, none⟩ (.string Y.k)).setCell ⟨g, (q + 1) * 3 + 1, none⟩ (.int .i64 Y.c)).setCell ⟨g, (q + 1) * 3 + 2, none⟩ (.int .i64 Y.e)).setCell
      ⟨g, q * 3, none⟩ (.string X.k)).setCell ⟨g, q * 3 + 1, none⟩ (.int .i64 X.c)).setCell ⟨g, q * 3 + 2, none⟩ (.int .i64 X.e)) := by
  have hg := h.ge
  have h1 := h.stored (q + 1) hY
  have e1 : C.length = (C.set (q + 1) Y).length := by rw [List.length_set]
  rw [e1] at h1
  have h2 := h1.stored q hX
  rw [swp_len, hs, e1]
  exact ⟨h2, bsetB (bsetB (bsetB (bsetB (bsetB (bsetB hb _ _ _ hg) _ _ _ hg) _ _ _ hg) _ _ _ hg) _ _ _ hg) _ _ _ hg⟩
set_option maxRecDepth 100000 in
set_option maxHeartbeats 4000000 in
theorem rsort_any (L : List Ent) (v : Value) (w : World) (hv : RdE L v w) (hn : L.length ≤ 549755813888) :
    Calls Try.prog 40 #[v] w fun e w' => ∃ u, e = .returned u ∧ OwnE w.heap.size (sortE L) u w' ∧ Below w.heap.size w w' := by
  have HR := Lib.hid hv
  obtain ⟨a, cap, rfl⟩ := hv.shape
  have hE := hv.1
  clear hv
  go_enter Try.func40, Try.ntmps40
  go_wp2
  go_loopw [3, 4, 5] (fun o i _ wr => ∃ k : Nat, k ≤ L.length ∧ i = .int .i64 (k : Int) ∧ Hid (OwnE w.heap.size (srt L k) o wr ∧ Below w.heap.size w wr)) (fun _ i _ _ => L.length - (intOf i).toNat)
  case atStart => exact ⟨0, by omega, rfl, Lib.hid ⟨OwnE.empty _ _, Below.refl _ _⟩⟩
  case round =>
    obtain ⟨k, hk, rfl, HI⟩ := hrel
    by_cases hlt : k < L.length
    · have hlt2 : (k : Int) < (L.length : Int) := by omega
      obtain ⟨-, a1, cap1, he1, -, -, hc1⟩ := HR.out.below HI.out.2
      simp only [Value.slice.injEq, true_and] at he1
      obtain ⟨rfl, rfl⟩ := he1
      obtain ⟨b, off, rfl, hb, hcell⟩ := hc1 (by omega)
      obtain ⟨c0, c1, c2⟩ := hcell k hlt
      have hx := hE.at_ k
      have HZ := Lib.hid (srt_succ hlt)
      clear hcell hc1
      generalize L.getD k Ent.z = X at *
      have HO := Lib.hid (HI.out.1.alloc (.cells #[.string X.k, .int .i64 X.c, .int .i64 X.e] 49))
      have HS := Lib.hid (OwnE.one hx wr).rd.src
      have HB := Lib.hid (bal HI.out.2 (.cells #[.string X.k, .int .i64 X.c, .int .i64 X.e] 49))
      have HL := Lib.hid (srt_len L hk)
      go_wp2_with (at_builtin; refine wp_appE rfl _ _ _ rfl w.heap.size (srt L k) [X] _ _ rfl rfl HO.out HS.out ?s1 ?s2 ?_)
      case s1 => exact HB.out.size
      case s2 => rw [HL.out]; simp; omega
      intro v1 w1 ho1 hb1
      obtain ⟨a1, cap1, rfl⟩ := ho1.rd.shape
      have hl1 : (srt L k ++ [X]).length = k + 1 := by rw [List.length_append, HL.out]; rfl
      rw [hl1] at ho1 ⊢
      obtain ⟨g, rfl, hg1, -, -, -, -⟩ := ho1.block (by omega)
      have HI1 := Lib.hid (show SrtS w (srt L k ++ [X]) g (k + 1) cap1 w1 from ⟨by rw [hl1]; exact ho1, HB.out.trans hb1, hl1⟩)
      clear ho1 hb1 hl1
      go_wp2
      have HZ1 : Hid (sink (srt L k ++ [X]) k = srt L (k + 1)) := Lib.hid HZ.out.symm
      clear HI HO HS HB HL HZ hx c0 c1 c2 HR hE hb
      go_loopw [5] (fun j wr' => ∃ (m : Nat) (C : List Ent), m ≤ k ∧ j = .int .i64 (m : Int) ∧ Hid (SrtS w C g (k + 1) cap1 wr') ∧ Hid (sink C m = srt L (k + 1))) (fun j _ => (intOf j).toNat)
      case atStart => exact ⟨k, _, Nat.le_refl _, by go_num, HI1, HZ1⟩
      case round =>
        clear HI1 HZ1
        obtain ⟨m, C, hm, rfl, HI, HZ⟩ := hrel
        cases m with
        | zero =>
          go_wp2
          go_quiet (fail)
          go_wp2
          refine ⟨⟨k + 1, by omega, by go_num, Lib.hid ?_⟩, by simp [intOf]; omega⟩
          have h1 := HI.out
          have h2 : C = srt L (k + 1) := HZ.out
          rw [h2] at h1
          obtain ⟨h3, h4, h5⟩ := h1
          rw [h5] at h3
          exact ⟨h3.drewN _, below_drewN h4 _⟩
        | succ q =>
          have hC := HI.out.2.2
          have hq : (q : Int) + 1 < (k : Int) + 1 := by omega
          have hq2 : (q : Int) < (k : Int) + 1 := by omega
          have hq3 : (0 : Int) ≤ (q : Int) := by omega
          have hq4 : (0 : Int) ≤ (q : Int) + 1 := by omega
          have hq5 : IntKind.i64.wrap ((q : Int) + 1 - 1) = (q : Int) := by rw [IntKind.wrap_i64]; omega
          have hq7 : wrap64 ((q : Int) + 1 - 1) = (q : Int) := by unfold wrap64; omega
          have hq8 : IntKind.i64.wrap (q : Int) = (q : Int) := by rw [IntKind.wrap_i64]; omega
          have hq6 : (0 : Int) < (q : Int) + 1 := by omega
          have hsk : sink C (q + 1) = if bef (C.getD (q + 1) Ent.z) (C.getD q Ent.z) = true then sink (swp C (q + 1)) q else C := rfl
          rw [HZ.out] at hsk
          have hX := HI.out.1.1.at_ (q + 1)
          have hY := HI.out.1.1.at_ q
          have hsw : swp C (q + 1) = (C.set (q + 1) (C.getD q Ent.z)).set q (C.getD (q + 1) Ent.z) := rfl
          have hO := Lib.hid (fun (w' : World) (hb : Below wr.heap.size wr w') => (HI.out.1.below hb : OwnE w.heap.size C (.slice (some ⟨g, 0, none⟩) C.length cap1) w'))
          have hA := Lib.hid (fun (w' : World) (hb : Below wr.heap.size wr w') => (hO.out w' hb).cellsAt (j := q + 1) (by omega))
          have hA2 := Lib.hid (fun (w' : World) (hb : Below wr.heap.size wr w') => (hO.out w' hb).cellsAt (j := q) (by omega))
          have HX := Lib.hid hX
          have HY := Lib.hid hY
          have HSW := Lib.hid hsw
          clear hX hY hsw
          generalize C.getD (q + 1) Ent.z = X at *
          generalize C.getD q Ent.z = Y at *
          have hbf := fun w => before_any X Y w
          obtain ⟨x0, x1, x2⟩ := hA.out wr (Below.refl _ _)
          obtain ⟨y0, y1, y2⟩ := hA2.out wr (Below.refl _ _)
          have HSB : Hid (∀ w1 w2 : World, Below wr.heap.size wr w1 → Below w1.heap.size w1 w2 → Below wr.heap.size wr w2) := Lib.hid (fun _ _ h k => bgo h k)
          have hBd : Below wr.heap.size wr wr.drew := (Below.refl wr.heap.size wr).drew
          by_cases hB : bef X Y = true
          · rw [hB] at hbf hsk
            rw [if_pos rfl] at hsk
            have HZ2 := Lib.hid hsk
            clear hsk HZ hB
            go_wp2
            go_region_held3 (fun w' => Below wr.heap.size wr w' ∧ w'.cell? ⟨g, (q + 1) * 3, none⟩ = some (.string X.k) ∧ w'.cell? ⟨g, (q + 1) * 3 + 1, none⟩ = some (.int .i64 X.c) ∧ w'.cell? ⟨g, (q + 1) * 3 + 2, none⟩ = some (.int .i64 X.e) ∧ w'.cell? ⟨g, q * 3, none⟩ = some (.string Y.k) ∧ w'.cell? ⟨g, q * 3 + 1, none⟩ = some (.int .i64 Y.c) ∧ w'.cell? ⟨g, q * 3 + 2, none⟩ = some (.int .i64 Y.e)) (go_keep)
              (first | (go_at_call 58; refine (hbf _).mono ?_; rintro e w' ⟨rfl, hb⟩; have S1 := HSB.out _ w' (by assumption) hb; obtain ⟨x0, x1, x2⟩ := hA.out w' S1; obtain ⟨y0, y1, y2⟩ := hA2.out w' S1; clear hb))
            all_goals
              have HO2 := hO.out w' S1
              have f0 := HO2.frozen ((q + 1) * 3)
              have f1 := HO2.frozen ((q + 1) * 3 + 1)
              have f2 := HO2.frozen ((q + 1) * 3 + 2)
              have g0 := HO2.frozen (q * 3)
              have g1 := HO2.frozen (q * 3 + 1)
              have g2 := HO2.frozen (q * 3 + 2)
              have HST : Hid (OwnE w.heap.size (swp C (q + 1)) (.slice (some ⟨g, 0, none⟩) (swp C (q + 1)).length cap1) _ ∧ Below w.heap.size w _) := Lib.hid (swp_own HO2 (bgo HI.out.2.1 S1) HX.out HY.out HSW.out)
              clear HO2
              rename_i hHeld
              clear hHeld
              go_wp2
              go_big_region
              go_wp2
              go_roundw
              case rel => exact ⟨q, swp C (q + 1), by omega, by go_num, Lib.hid ⟨HST.out.1.drewN 1, HST.out.2.drew, by rw [swp_len]; exact hC⟩, Lib.hid HZ2.out.symm⟩
              case measure => simp [intOf]
          · have hB' : bef X Y = false := by simpa using hB
            rw [hB'] at hbf hsk
            rw [if_neg (by simp)] at hsk
            have HZ2 := Lib.hid hsk
            clear hsk HZ hB hB'
            go_wp2
            go_region_held3 (fun w' => Below wr.heap.size wr w' ∧ w'.cell? ⟨g, (q + 1) * 3, none⟩ = some (.string X.k) ∧ w'.cell? ⟨g, (q + 1) * 3 + 1, none⟩ = some (.int .i64 X.c) ∧ w'.cell? ⟨g, (q + 1) * 3 + 2, none⟩ = some (.int .i64 X.e) ∧ w'.cell? ⟨g, q * 3, none⟩ = some (.string Y.k) ∧ w'.cell? ⟨g, q * 3 + 1, none⟩ = some (.int .i64 Y.c) ∧ w'.cell? ⟨g, q * 3 + 2, none⟩ = some (.int .i64 Y.e)) (go_keep)
              (first | (go_at_call 58; refine (hbf _).mono ?_; rintro e w' ⟨rfl, hb⟩; have S1 := HSB.out _ w' (by assumption) hb; obtain ⟨x0, x1, x2⟩ := hA.out w' S1; obtain ⟨y0, y1, y2⟩ := hA2.out w' S1; clear hb))
            all_goals
              go_wp2
              refine ⟨⟨k + 1, by omega, by go_num, Lib.hid ?_⟩, by simp [intOf]; omega⟩
              have h1 := hO.out w' S1
              have h2 : C = srt L (k + 1) := HZ2.out.symm
              rw [hC, h2] at h1
              exact ⟨h1, bgo HI.out.2.1 S1⟩
    · obtain rfl : k = L.length := by omega
      go_wp2
      go_ret
      exact ⟨_, rfl, by have := HI.out.1; rwa [srt_all] at this, HI.out.2⟩
end Go.Proofs.Ytmmdnomfpfcjiaa
