/- RSrt, SrtY, Item, Tally, Hashes: in one text. -/
import Derived.Test.YtjibbnknliamkaaGreatDoorPg01
import Derived.Test.YtjibbnknliamkaaGreatDoorPg00
import Derived.Test.YtjibbnknliamkaaGreatDoorProg
import Derived.Shelf.Abstract
import Derived.Lib.SliceRun
import Derived.Lib.Strings
import Derived.WalkKit
import Derived.ProofKit
import Derived.Handy
import Derived.Shelf.Small.Bits
import Derived.Shelf.Strconv.Itoa0
import Derived.Shelf.Bits.Mul64
import Derived.Shelf.Spec.TrailingZeros
import Derived.Laws.BitsAllLaws
import Derived.Lib.Hide
namespace Go.Proofs.YtjibbnknliamkaaGreatDoor
open Go.RowKit
set_option linter.unusedVariables false
set_option linter.unusedSimpArgs false
theorem OwnE.go {B : Nat} {L : List Ent} {v : Value} {w w' : World} (h : OwnE B L v w) (hb : Below w.heap.size w w') : OwnE B L v w' := h.below hb
/-- The state of a sort: C lies in block g, and goes on to Z. -/
def SrtS (W : World) (C : List Ent) (g n cap : Nat) (w : World) : Prop := OwnE W.heap.size C (.slice (some ⟨g, 0, none⟩) C.length cap) w ∧ Below W.heap.size W w ∧ C.length = n
theorem OwnE.ge {B : Nat} {L : List Ent} {g n cap : Nat} {w : World} (h : OwnE B L (.slice (some ⟨g, 0, none⟩) n cap) w) : B ≤ g := by
  rcases h.2.2 with ⟨he, _⟩ | ⟨g', cap', cur, he, hb, _⟩
  · cases he
  · simp only [Value.slice.injEq, Option.some.injEq, Addr.mk.injEq] at he
    obtain ⟨⟨rfl, _⟩, _⟩ := he
    exact hb
theorem bsetB {B : Nat} {a w : World} (h : Below B a w) (k o : Nat) (v : Value) (hk : B ≤ k) : Below B a (w.setCell ⟨k, o, none⟩ v) := h.setCell (p := ⟨k, o, none⟩) hk v
/-- What the exchange of two neighbours leaves. -/
theorem swp_own {B g cap q : Nat} {C : List Ent} {W w : World} {X Y : Ent} (h : OwnE B C (.slice (some ⟨g, 0, none⟩) C.length cap) w) (hb : Below B W w) (hX : X.ok) (hY : Y.ok) (hs : swp C (q + 1) = (C.set (q + 1) Y).set q X) :
    OwnE B (swp C (q + 1)) (.slice (some ⟨g, 0, none⟩) (swp C (q + 1)).length cap) ((((((w.setCell ⟨g, (q + 1) * 3, none⟩ (.string Y.k)).setCell ⟨g, (q + 1) * 3 + 1, none⟩ (.int .i64 Y.c)).setCell ⟨g, (q + 1) * 3 + 2, none⟩ (.int .i64 Y.e)).setCell
      ⟨g, q * 3, none⟩ (.string X.k)).setCell ⟨g, q * 3 + 1, none⟩ (.int .i64 X.c)).setCell ⟨g, q * 3 + 2, none⟩ (.int .i64 X.e)) ∧
    Below B W ((((((w.setCell ⟨g, (q + 1) * 3, none⟩ (.string Y.k)).setCell ⟨g, (q + 1) * 3 + 1, none⟩ (.int .i64 Y.c)).setCell ⟨g, (q + 1) * 3 + 2, none⟩ (.int .i64 Y.e)).setCell
      ⟨g, q * 3, none⟩ (.string X.k)).setCell ⟨g, q * 3 + 1, none⟩ (.int .i64 X.c)).setCell ⟨g, q * 3 + 2, none⟩ (.int .i64 X.e)) := by
  have hg := h.ge
  have h1 := h.stored (q + 1) hY
  have e1 : C.length = (C.set (q + 1) Y).length := by rw [List.length_set]
  rw [e1] at h1
  have h2 := h1.stored q hX
  rw [swp_len, hs, e1]
  exact ⟨h2, bsetB (bsetB (bsetB (bsetB (bsetB (bsetB hb _ _ _ hg) _ _ _ hg) _ _ _ hg) _ _ _ hg) _ _ _ hg) _ _ _ hg⟩
set_option maxRecDepth 100000 in
set_option maxHeartbeats 4000000 in
theorem rsort_any (L : List Ent) (v : Value) (w : World) (hv : RdE L v w) (hn : L.length ≤ 549755813888) :
    Calls Tryz.prog 47 #[v] w fun e w' => ∃ u, e = .returned u ∧ OwnE w.heap.size (sortE L) u w' ∧ Below w.heap.size w w' := by
  have HR := Lib.hid hv
  obtain ⟨a, cap, rfl⟩ := hv.shape
  have hE := hv.1
  clear hv
  go_enter Tryz.func47, Tryz.ntmps47
  go_wp2
  go_loopw [3, 4, 5] (fun o i _ wr => ∃ k : Nat, k ≤ L.length ∧ i = .int .i64 (k : Int) ∧ Hid (OwnE w.heap.size (srt L k) o wr ∧ Below w.heap.size w wr)) (fun _ i _ _ => L.length - (intOf i).toNat)
  case atStart => exact ⟨0, by omega, rfl, Lib.hid ⟨OwnE.empty _ _, Below.refl _ _⟩⟩
  case round =>
    obtain ⟨k, hk, rfl, HI⟩ := hrel
    by_cases hlt : k < L.length
    · have hlt2 : (k : Int) < (L.length : Int) := by omega
      obtain ⟨-, a1, cap1, he1, -, -, hc1⟩ := HR.out.below HI.out.2
      simp only [Value.slice.injEq, true_and] at he1
      obtain ⟨rfl, rfl⟩ := he1
      obtain ⟨b, off, rfl, hb, hcell⟩ := hc1 (by omega)
      obtain ⟨c0, c1, c2⟩ := hcell k hlt
      have hx := hE.at_ k
      have HZ := Lib.hid (srt_succ hlt)
      clear hcell hc1
      generalize L.getD k Ent.z = X at *
      have HO := Lib.hid (HI.out.1.alloc (.cells #[.string X.k, .int .i64 X.c, .int .i64 X.e] 64))
      have HS := Lib.hid (OwnE.one hx wr).rd.src
      have HB := Lib.hid (bal HI.out.2 (.cells #[.string X.k, .int .i64 X.c, .int .i64 X.e] 64))
      have HL := Lib.hid (srt_len L hk)
      go_wp2_with (at_builtin; refine wp_appE rfl _ _ _ rfl w.heap.size (srt L k) [X] _ _ rfl rfl HO.out HS.out ?s1 ?s2 ?_)
      case s1 => exact HB.out.size
      case s2 => rw [HL.out]; simp; omega
      intro v1 w1 ho1 hb1
      obtain ⟨a1, cap1, rfl⟩ := ho1.rd.shape
      have hl1 : (srt L k ++ [X]).length = k + 1 := by rw [List.length_append, HL.out]; rfl
      rw [hl1] at ho1 ⊢
      obtain ⟨g, rfl, hg1, -, -, -, -⟩ := ho1.block (by omega)
      have HI1 := Lib.hid (show SrtS w (srt L k ++ [X]) g (k + 1) cap1 w1 from ⟨by rw [hl1]; exact ho1, HB.out.trans hb1, hl1⟩)
      clear ho1 hb1 hl1
      go_wp2
      have HZ1 : Hid (sink (srt L k ++ [X]) k = srt L (k + 1)) := Lib.hid HZ.out.symm
      clear HI HO HS HB HL HZ hx c0 c1 c2 HR hE hb
      go_loopw [5] (fun j wr' => ∃ (m : Nat) (C : List Ent), m ≤ k ∧ j = .int .i64 (m : Int) ∧ Hid (SrtS w C g (k + 1) cap1 wr') ∧ Hid (sink C m = srt L (k + 1))) (fun j _ => (intOf j).toNat)
      case atStart => exact ⟨k, _, Nat.le_refl _, by go_num, HI1, HZ1⟩
      case round =>
        clear HI1 HZ1
        obtain ⟨m, C, hm, rfl, HI, HZ⟩ := hrel
        cases m with
        | zero =>
          go_wp2
          go_quiet (fail)
          go_wp2
          refine ⟨⟨k + 1, by omega, by go_num, Lib.hid ?_⟩, by simp [intOf]; omega⟩
          have h1 := HI.out
          have h2 : C = srt L (k + 1) := HZ.out
          rw [h2] at h1
          obtain ⟨h3, h4, h5⟩ := h1
          rw [h5] at h3
          exact ⟨h3.drewN _, below_drewN h4 _⟩
        | succ q =>
          have hC := HI.out.2.2
          have hq : (q : Int) + 1 < (k : Int) + 1 := by omega
          have hq2 : (q : Int) < (k : Int) + 1 := by omega
          have hq3 : (0 : Int) ≤ (q : Int) := by omega
          have hq4 : (0 : Int) ≤ (q : Int) + 1 := by omega
          have hq5 : IntKind.i64.wrap ((q : Int) + 1 - 1) = (q : Int) := by rw [IntKind.wrap_i64]; omega
          have hq7 : wrap64 ((q : Int) + 1 - 1) = (q : Int) := by unfold wrap64; omega
          have hq8 : IntKind.i64.wrap (q : Int) = (q : Int) := by rw [IntKind.wrap_i64]; omega
          have hq6 : (0 : Int) < (q : Int) + 1 := by omega
          have hsk : sink C (q + 1) = if bef (C.getD (q + 1) Ent.z) (C.getD q Ent.z) = true then sink (swp C (q + 1)) q else C := rfl
          rw [HZ.out] at hsk
          have hX := HI.out.1.1.at_ (q + 1)
          have hY := HI.out.1.1.at_ q
          have hsw : swp C (q + 1) = (C.set (q + 1) (C.getD q Ent.z)).set q (C.getD (q + 1) Ent.z) := rfl
          have hO := Lib.hid (fun (w' : World) (hb : Below wr.heap.size wr w') => (HI.out.1.below hb : OwnE w.heap.size C (.slice (some ⟨g, 0, none⟩) C.length cap1) w'))
          have hA := Lib.hid (fun (w' : World) (hb : Below wr.heap.size wr w') => (hO.out w' hb).cellsAt (j := q + 1) (by omega))
          have hA2 := Lib.hid (fun (w' : World) (hb : Below wr.heap.size wr w') => (hO.out w' hb).cellsAt (j := q) (by omega))
          have HX := Lib.hid hX
          have HY := Lib.hid hY
          have HSW := Lib.hid hsw
          clear hX hY hsw
          generalize C.getD (q + 1) Ent.z = X at *
          generalize C.getD q Ent.z = Y at *
          have hbf := fun w => before_any X Y w
          obtain ⟨x0, x1, x2⟩ := hA.out wr (Below.refl _ _)
          obtain ⟨y0, y1, y2⟩ := hA2.out wr (Below.refl _ _)
          have HSB : Hid (∀ w1 w2 : World, Below wr.heap.size wr w1 → Below w1.heap.size w1 w2 → Below wr.heap.size wr w2) := Lib.hid (fun _ _ h k => bgo h k)
          have hBd : Below wr.heap.size wr wr.drew := (Below.refl wr.heap.size wr).drew
          by_cases hB : bef X Y = true
          · rw [hB] at hbf hsk
            rw [if_pos rfl] at hsk
            have HZ2 := Lib.hid hsk
            clear hsk HZ hB
            go_wp2
            go_region_held3 (fun w' => Below wr.heap.size wr w' ∧ w'.cell? ⟨g, (q + 1) * 3, none⟩ = some (.string X.k) ∧ w'.cell? ⟨g, (q + 1) * 3 + 1, none⟩ = some (.int .i64 X.c) ∧ w'.cell? ⟨g, (q + 1) * 3 + 2, none⟩ = some (.int .i64 X.e) ∧ w'.cell? ⟨g, q * 3, none⟩ = some (.string Y.k) ∧ w'.cell? ⟨g, q * 3 + 1, none⟩ = some (.int .i64 Y.c) ∧ w'.cell? ⟨g, q * 3 + 2, none⟩ = some (.int .i64 Y.e)) (go_keep)
              (first | (go_at_call 22; refine (hbf _).mono ?_; rintro e w' ⟨rfl, hb⟩; have S1 := HSB.out _ w' (by assumption) hb; obtain ⟨x0, x1, x2⟩ := hA.out w' S1; obtain ⟨y0, y1, y2⟩ := hA2.out w' S1; clear hb))
            all_goals
              have HO2 := hO.out w' S1
              have f0 := HO2.frozen ((q + 1) * 3)
              have f1 := HO2.frozen ((q + 1) * 3 + 1)
              have f2 := HO2.frozen ((q + 1) * 3 + 2)
              have g0 := HO2.frozen (q * 3)
              have g1 := HO2.frozen (q * 3 + 1)
              have g2 := HO2.frozen (q * 3 + 2)
              have HST : Hid (OwnE w.heap.size (swp C (q + 1)) (.slice (some ⟨g, 0, none⟩) (swp C (q + 1)).length cap1) _ ∧ Below w.heap.size w _) := Lib.hid (swp_own HO2 (bgo HI.out.2.1 S1) HX.out HY.out HSW.out)
              clear HO2
              rename_i hHeld
              clear hHeld
              go_wp2
              go_big_region
              go_wp2
              go_roundw
              case rel => exact ⟨q, swp C (q + 1), by omega, by go_num, Lib.hid ⟨HST.out.1.drewN 1, HST.out.2.drew, by rw [swp_len]; exact hC⟩, Lib.hid HZ2.out.symm⟩
              case measure => simp [intOf]
          · have hB' : bef X Y = false := by simpa using hB
            rw [hB'] at hbf hsk
            rw [if_neg (by simp)] at hsk
            have HZ2 := Lib.hid hsk
            clear hsk HZ hB hB'
            go_wp2
            go_region_held3 (fun w' => Below wr.heap.size wr w' ∧ w'.cell? ⟨g, (q + 1) * 3, none⟩ = some (.string X.k) ∧ w'.cell? ⟨g, (q + 1) * 3 + 1, none⟩ = some (.int .i64 X.c) ∧ w'.cell? ⟨g, (q + 1) * 3 + 2, none⟩ = some (.int .i64 X.e) ∧ w'.cell? ⟨g, q * 3, none⟩ = some (.string Y.k) ∧ w'.cell? ⟨g, q * 3 + 1, none⟩ = some (.int .i64 Y.c) ∧ w'.cell? ⟨g, q * 3 + 2, none⟩ = some (.int .i64 Y.e)) (go_keep)
              (first | (go_at_call 22; refine (hbf _).mono ?_; rintro e w' ⟨rfl, hb⟩; have S1 := HSB.out _ w' (by assumption) hb; obtain ⟨x0, x1, x2⟩ := hA.out w' S1; obtain ⟨y0, y1, y2⟩ := hA2.out w' S1; clear hb))
            all_goals
              go_wp2
              refine ⟨⟨k + 1, by omega, by go_num, Lib.hid ?_⟩, by simp [intOf]; omega⟩
              have h1 := hO.out w' S1
              have h2 : C = srt L (k + 1) := HZ2.out.symm
              rw [hC, h2] at h1
              exact ⟨h1, bgo HI.out.2.1 S1⟩
    · obtain rfl : k = L.length := by omega
      go_wp2
      go_ret
      exact ⟨_, rfl, by have := HI.out.1; rwa [srt_all] at this, HI.out.2⟩
end Go.Proofs.YtjibbnknliamkaaGreatDoor
namespace Go.Proofs.YtjibbnknliamkaaGreatDoor
open Go.RowKit
set_option linter.unusedVariables false
set_option linter.unusedSimpArgs false
set_option maxRecDepth 100000 in
set_option maxHeartbeats 4000000 in
theorem compare_anyY (x y : Ent) (w : World) : Calls Tryz.prog 91 #[.agg #[.string x.k, .int .i64 x.c, .int .i64 x.e], .agg #[.string y.k, .int .i64 y.c, .int .i64 y.e]] w fun e w' =>
      e = .returned (.int .i64 (cmpE x y)) ∧ Below w.heap.size w w' := by
  have h1 := fun w => cmpi_any y.c x.c w
  have h2 := fun w => scmp_any x.k y.k w
  have h3 := fun g w h0 h1 => or_any (cmpI y.c x.c) (Lib.compareBytes x.k.data.toList y.k.data.toList) g w h0 h1
  rw [or2_cmp] at h3
  obtain ⟨k, c, e⟩ := x
  obtain ⟨k', c', e'⟩ := y
  dsimp only at h1 h2 h3 ⊢
  generalize cmpE ⟨k, c, e⟩ ⟨k', c', e'⟩ = R at *
  generalize cmpI c' c = p at *
  generalize Lib.compareBytes k.data.toList k'.data.toList = q at *
  go_enter Tryz.func91, Tryz.ntmps91
  go_wp2
  go_region_law (go_simp; first
    | (go_at_call 93; refine (h1 _).mono ?_; rintro e w' ⟨rfl, rfl⟩)
    | (go_at_call 94; refine (h2 _).mono ?_; rintro e w' ⟨rfl, rfl⟩)
    | (go_at_call 92; refine (h3 _ _ (by go_simp) (by go_simp)).mono ?_; rintro e w' ⟨rfl, rfl⟩))
  all_goals
    go_wp2
    go_ret
    exact ⟨rfl, by first | exact bal (b2 _ _) _ | exact (bal (b2 _ _) _).drew | exact (bal (b2 _ _) _).drewN _⟩

open Go.RowKit
set_option linter.unusedVariables false
set_option linter.unusedSimpArgs false
def SrtBY (B : Nat) (W : World) (C : List Ent) (g n cap : Nat) (w : World) : Prop := OwnE B C (.slice (some ⟨g, 0, none⟩) C.length cap) w ∧ Below B W w ∧ C.length = n
theorem enters_cmpY : ∀ args w, (callFunc 91 args).run Tryz.prog w = .ok (.enter 91 args) w := Go.Proofs.enters_of Tryz.func91 (by kernel_rfl) rfl
theorem bgoBY {B : Nat} {a w w' : World} (h : Below B a w) (hb : Below w.heap.size w w') (hB : B ≤ w.heap.size) : Below B a w' := h.trans (hb.mono hB)
set_option maxRecDepth 100000 in
set_option maxHeartbeats 4000000 in
theorem isort_anyY (L : List Ent) (B g cap : Nat) (w : World) (hO : OwnE B L (.slice (some ⟨g, 0, none⟩) L.length cap) w) (hn : L.length ≤ 549755813888) (hB : B ≤ w.heap.size) :
    Calls Tryz.prog 163 #[.slice (some ⟨g, 0, none⟩) L.length cap, .int .i64 0, .int .i64 L.length, .func (.func 91) #[] #[]] w fun e w' =>
      e = .returned (.tuple #[]) ∧ OwnE B (sortE L) (.slice (some ⟨g, 0, none⟩) L.length cap) w' ∧ Below B w w' := by
  have he := enters_cmpY
  by_cases h0 : L.length = 0
  · obtain rfl := List.eq_nil_of_length_eq_zero h0
    have HO := Lib.hid hO
    clear hO
    go_enter Tryz.func163, Tryz.ntmps163
    go_wp2
    go_loopw [8] (fun i wr => i = .int .i64 1 ∧ wr = w) (fun _ _ => 0)
    case atStart => exact ⟨by go_num, rfl⟩
    case round =>
      obtain ⟨rfl, rfl⟩ := hrel
      go_wp2
      go_end0
      exact ⟨rfl, HO.out, Below.refl _ _⟩
  · have h1 : 1 ≤ L.length := by omega
    clear h0
    have HI0 := Lib.hid (show SrtBY B w (upTo L 1) g L.length cap w from ⟨by rw [upTo_one]; exact hO, Below.refl _ _, by rw [upTo_one]⟩)
    clear hO
    go_enter Tryz.func163, Tryz.ntmps163
    go_wp2
    go_loopw [8, 9] (fun i _ wr => ∃ k : Nat, k ≤ L.length ∧ 1 ≤ k ∧ i = .int .i64 (k : Int) ∧ Hid (SrtBY B w (upTo L k) g L.length cap wr)) (fun i _ _ => L.length - (intOf i).toNat)
    case atStart => exact ⟨1, h1, by omega, by go_num, HI0⟩
    case round =>
      clear HI0
      obtain ⟨k, hk, hk1, rfl, HI1⟩ := hrel
      by_cases hlt : k < L.length
      · have hlt2 : (k : Int) < (L.length : Int) := by omega
        have HZ1 : Hid (sink (upTo L k) k = upTo L (k + 1)) := Lib.hid (upTo_succ hlt).symm
        go_wp2
        go_loopw [9] (fun j wr' => ∃ (m : Nat) (C : List Ent), m ≤ k ∧ j = .int .i64 (m : Int) ∧ Hid (SrtBY B w C g L.length cap wr') ∧ Hid (sink C m = upTo L (k + 1))) (fun j _ => (intOf j).toNat)
        case atStart => exact ⟨k, _, Nat.le_refl _, by go_num, HI1, HZ1⟩
        case round =>
          clear HI1 HZ1
          obtain ⟨m, C, hm, rfl, HI, HZ⟩ := hrel
          cases m with
          | zero =>
            go_wp2
            go_quiet (fail)
            go_wp2
            refine ⟨⟨k + 1, by omega, by omega, by go_num, Lib.hid ?_⟩, by simp [intOf]; omega⟩
            have h1 := HI.out
            have h2 : C = upTo L (k + 1) := HZ.out
            rw [h2] at h1
            obtain ⟨h3, h4, h5⟩ := h1
            exact ⟨h3.drewN _, below_drewN h4 _, h5⟩
          | succ q =>
            have hC := HI.out.2.2
            have hq : (q : Int) + 1 < (L.length : Int) := by omega
            have hq2 : (q : Int) < (L.length : Int) := by omega
            have hq3 : (0 : Int) ≤ (q : Int) := by omega
            have hq4 : (0 : Int) ≤ (q : Int) + 1 := by omega
            have hq5 : IntKind.i64.wrap ((q : Int) + 1 - 1) = (q : Int) := by rw [IntKind.wrap_i64]; omega
            have hq7 : wrap64 ((q : Int) + 1 - 1) = (q : Int) := by unfold wrap64; omega
            have hq8 : IntKind.i64.wrap (q : Int) = (q : Int) := by rw [IntKind.wrap_i64]; omega
            have hq6 : (0 : Int) < (q : Int) + 1 := by omega
            have hsk : sink C (q + 1) = if bef (C.getD (q + 1) Ent.z) (C.getD q Ent.z) = true then sink (swp C (q + 1)) q else C := rfl
            rw [HZ.out] at hsk
            have hX := HI.out.1.1.at_ (q + 1)
            have hY := HI.out.1.1.at_ q
            have hsw : swp C (q + 1) = (C.set (q + 1) (C.getD q Ent.z)).set q (C.getD (q + 1) Ent.z) := rfl
            have hO := Lib.hid (fun (w' : World) (hb : Below wr.heap.size wr w') => (HI.out.1.below hb : OwnE B C (.slice (some ⟨g, 0, none⟩) C.length cap) w'))
            have hA := Lib.hid (fun (w' : World) (hb : Below wr.heap.size wr w') => (hO.out w' hb).cellsAt (j := q + 1) (by omega))
            have hA2 := Lib.hid (fun (w' : World) (hb : Below wr.heap.size wr w') => (hO.out w' hb).cellsAt (j := q) (by omega))
            have HX := Lib.hid hX
            have HY := Lib.hid hY
            have HSW := Lib.hid hsw
            clear hX hY hsw
            generalize C.getD (q + 1) Ent.z = X at *
            generalize C.getD q Ent.z = Y at *
            have hbf := fun w => compare_anyY X Y w
            have hcd := cmpE_bd X Y
            have hcb := cmpE_bef X Y
            have HBL : Hid (B ≤ wr.heap.size) := Lib.hid (Nat.le_trans hB HI.out.2.1.size)
            generalize cmpE X Y = r at *
            obtain ⟨x0, x1, x2⟩ := hA.out wr (Below.refl _ _)
            obtain ⟨y0, y1, y2⟩ := hA2.out wr (Below.refl _ _)
            have HSB : Hid (∀ w1 w2 : World, Below wr.heap.size wr w1 → Below w1.heap.size w1 w2 → Below wr.heap.size wr w2) := Lib.hid (fun _ _ h k => bgo h k)
            have hBd : Below wr.heap.size wr wr.drew := (Below.refl wr.heap.size wr).drew
            by_cases hbe : bef X Y = true
            · have hr : r < 0 := by rw [hbe] at hcb; exact of_decide_eq_true hcb
              rw [hbe] at hsk
              rw [if_pos rfl] at hsk
              have HZ2 := Lib.hid hsk
              clear hsk HZ hbe hcb
              go_wp2
              go_region_held3 (fun w' => Below wr.heap.size wr w' ∧ w'.cell? ⟨g, (q + 1) * 3, none⟩ = some (.string X.k) ∧ w'.cell? ⟨g, (q + 1) * 3 + 1, none⟩ = some (.int .i64 X.c) ∧ w'.cell? ⟨g, (q + 1) * 3 + 2, none⟩ = some (.int .i64 X.e) ∧ w'.cell? ⟨g, q * 3, none⟩ = some (.string Y.k) ∧ w'.cell? ⟨g, q * 3 + 1, none⟩ = some (.int .i64 Y.c) ∧ w'.cell? ⟨g, q * 3 + 2, none⟩ = some (.int .i64 Y.e)) (go_keep)
                (first | (go_at_call 91; refine (hbf _).mono ?_; rintro e w' ⟨rfl, hb⟩; have S1 := HSB.out _ w' (by assumption) hb; obtain ⟨x0, x1, x2⟩ := hA.out w' S1; obtain ⟨y0, y1, y2⟩ := hA2.out w' S1; clear hb))
              all_goals
                have HO2 := hO.out w' S1
                have f0 := HO2.frozen ((q + 1) * 3)
                have f1 := HO2.frozen ((q + 1) * 3 + 1)
                have f2 := HO2.frozen ((q + 1) * 3 + 2)
                have g0 := HO2.frozen (q * 3)
                have g1 := HO2.frozen (q * 3 + 1)
                have g2 := HO2.frozen (q * 3 + 2)
                have HST : Hid (OwnE B (swp C (q + 1)) (.slice (some ⟨g, 0, none⟩) (swp C (q + 1)).length cap) _ ∧ Below B w _) := Lib.hid (swp_own HO2 (bgoBY HI.out.2.1 S1 HBL.out) HX.out HY.out HSW.out)
                clear HO2
                rename_i hHeld
                clear hHeld
                go_wp2
                go_big_region
                go_wp2
                go_roundw
                case rel => exact ⟨q, swp C (q + 1), by omega, by go_num, Lib.hid ⟨HST.out.1.drewN 1, HST.out.2.drew, by rw [swp_len]; exact hC⟩, Lib.hid HZ2.out.symm⟩
                case measure => simp [intOf]
            · have hB' : bef X Y = false := by simpa using hbe
              have hr : ¬ r < 0 := by rw [hB'] at hcb; exact of_decide_eq_false hcb
              rw [hB'] at hsk
              rw [if_neg (by simp)] at hsk
              have HZ2 := Lib.hid hsk
              clear hsk HZ hbe hB' hcb
              go_wp2
              go_region_held3 (fun w' => Below wr.heap.size wr w' ∧ w'.cell? ⟨g, (q + 1) * 3, none⟩ = some (.string X.k) ∧ w'.cell? ⟨g, (q + 1) * 3 + 1, none⟩ = some (.int .i64 X.c) ∧ w'.cell? ⟨g, (q + 1) * 3 + 2, none⟩ = some (.int .i64 X.e) ∧ w'.cell? ⟨g, q * 3, none⟩ = some (.string Y.k) ∧ w'.cell? ⟨g, q * 3 + 1, none⟩ = some (.int .i64 Y.c) ∧ w'.cell? ⟨g, q * 3 + 2, none⟩ = some (.int .i64 Y.e)) (go_keep)
                (first | (go_at_call 91; refine (hbf _).mono ?_; rintro e w' ⟨rfl, hb⟩; have S1 := HSB.out _ w' (by assumption) hb; obtain ⟨x0, x1, x2⟩ := hA.out w' S1; obtain ⟨y0, y1, y2⟩ := hA2.out w' S1; clear hb))
              all_goals
                go_wp2
                refine ⟨⟨k + 1, by omega, by omega, by go_num, Lib.hid ?_⟩, by simp [intOf]; omega⟩
                have h1 := hO.out w' S1
                have h2 : C = upTo L (k + 1) := HZ2.out.symm
                rw [h2] at h1 hC
                exact ⟨h1, bgoBY HI.out.2.1 S1 HBL.out, hC⟩
      · obtain rfl : k = L.length := by omega
        have h := HI1.out
        rw [upTo_all] at h
        have HH := Lib.hid h
        clear h HI1
        go_wp2
        go_end0
        obtain ⟨h2, h3, h4⟩ := HH.out
        rw [h4] at h2
        exact ⟨rfl, h2, h3⟩

open Go.RowKit
set_option linter.unusedVariables false
set_option linter.unusedSimpArgs false
set_option maxRecDepth 100000 in
set_option maxHeartbeats 4000000 in
theorem len64_anyY (n : Int) (w : World) (h0 : 0 ≤ n) (h1 : n ≤ 12) : Calls Tryz.prog 172 #[.int .u64 n] w fun e w' => (∃ l : Int, e = .returned (.int .i64 l)) ∧ w = w' := by
  have h : n = 0 ∨ n = 1 ∨ n = 2 ∨ n = 3 ∨ n = 4 ∨ n = 5 ∨ n = 6 ∨ n = 7 ∨ n = 8 ∨ n = 9 ∨ n = 10 ∨ n = 11 ∨ n = 12 := by omega
  rcases h with rfl | rfl | rfl | rfl | rfl | rfl | rfl | rfl | rfl | rfl | rfl | rfl | rfl
  all_goals
    clear h0 h1
    go_enter Tryz.func172, Tryz.ntmps172
    go_wp2
    go_ret
    exact ⟨⟨_, rfl⟩, rfl⟩
theorem len_anyY (n : Int) (w : World) (h0 : 0 ≤ n) (h1 : n ≤ 12) : Calls Tryz.prog 130 #[.int .u64 n] w fun e w' => (∃ l : Int, e = .returned (.int .i64 l)) ∧ w = w' := by
  have h := fun w => len64_anyY n w h0 h1
  go_enter Tryz.func130, Tryz.ntmps130
  go_wp2_with (go_at_call 172; refine (h _).mono ?_; rintro e w' ⟨⟨l, rfl⟩, rfl⟩)
  go_ret
  exact ⟨⟨_, rfl⟩, rfl⟩
set_option maxRecDepth 100000 in
set_option maxHeartbeats 4000000 in
theorem pdq_anyY (L : List Ent) (B g cap : Nat) (l : Int) (w : World) (hO : OwnE B L (.slice (some ⟨g, 0, none⟩) L.length cap) w) (hn : L.length ≤ 12) (hB : B ≤ w.heap.size) :
    Calls Tryz.prog 129 #[.slice (some ⟨g, 0, none⟩) L.length cap, .int .i64 0, .int .i64 L.length, .int .i64 l, .func (.func 91) #[] #[]] w fun e w' =>
      e = .returned (.tuple #[]) ∧ OwnE B (sortE L) (.slice (some ⟨g, 0, none⟩) L.length cap) w' ∧ Below B w w' := by
  have hc := isort_anyY L B g cap w hO (by omega) hB
  have hn2 : (L.length : Int) ≤ 12 := by omega
  clear hO
  go_enter Tryz.func129, Tryz.ntmps129
  go_wp2
  go_loopw [1, 2, 3, 10, 11, 12] (fun a b _ _ _ _ wr => a = .int .i64 0 ∧ b = .int .i64 L.length ∧ wr = w) (fun _ _ _ _ _ _ _ => 0)
  case atStart => exact ⟨rfl, rfl, rfl⟩
  case round =>
    obtain ⟨rfl, rfl, rfl⟩ := hrel
    go_wp2_with (go_at_call 163; refine hc.mono ?_; rintro e w' ⟨rfl, ho, hb⟩; have HO := Lib.hid ho; have HB := Lib.hid hb; clear ho hb)
    exact bodyPost_ret (v := .tuple #[]) (by simp [results, Tryz.results129, go_sem]) rfl ⟨rfl, HO.out, HB.out⟩
set_option maxRecDepth 100000 in
theorem sortF_anyY (L : List Ent) (B g cap : Nat) (w : World) (hO : OwnE B L (.slice (some ⟨g, 0, none⟩) L.length cap) w) (hn : L.length ≤ 12) (hB : B ≤ w.heap.size) :
    Calls Tryz.prog 90 #[.slice (some ⟨g, 0, none⟩) L.length cap, .func (.func 91) #[] #[]] w fun e w' =>
      e = .returned (.tuple #[]) ∧ OwnE B (sortE L) (.slice (some ⟨g, 0, none⟩) L.length cap) w' ∧ Below B w w' := by
  have hc := fun l => pdq_anyY L B g cap l w hO hn hB
  have hl := fun w => len_anyY L.length w (by omega) (by omega)
  have hw : IntKind.u64.wrap (L.length : Int) = (L.length : Int) := by rw [IntKind.wrap_u64]; omega
  clear hO
  go_enter Tryz.func90, Tryz.ntmps90
  go_wp2_with (first
    | (go_at_call 130; refine (hl _).mono ?_; rintro e w' ⟨⟨l, rfl⟩, rfl⟩)
    | (go_at_call 129; refine (hc _).mono ?_; rintro e w' ⟨rfl, ho, hb⟩; have HO := Lib.hid ho; have HB := Lib.hid hb; clear ho hb))
  go_end0
  exact ⟨rfl, HO.out, HB.out⟩
set_option maxRecDepth 100000 in
theorem cloneE_anyY (L : List Ent) (a : Option Addr) (n cap : Nat) (w : World) (h : RdE L (.slice a n cap) w) (hn : L.length ≤ 1099511627776) :
    Calls Tryz.prog 89 #[.slice a n cap] w fun e w' => ∃ v, e = .returned v ∧ OwnE w.heap.size L v w' ∧ Below w.heap.size w w' := by
  have HR := Lib.hid h
  cases a with
  | none =>
    obtain ⟨hy, a, cap', he, h1, h2, h3⟩ := h
    have hl : L = [] := by
      apply List.eq_nil_of_length_eq_zero
      cases Nat.eq_zero_or_pos L.length with
      | inl h => exact h
      | inr h => obtain ⟨b, off, hb, _⟩ := h3 h; subst hb; cases he
    subst hl
    clear he h3 hy h1 h2
    have hq := fun w => Go.Lib.run_eql_slice_nil w 39 64 none n cap 0 0 Tryz.underlying39
    go_enter Tryz.func89, Tryz.ntmps89
    go_wp2
    go_ret
    exact ⟨_, rfl, OwnE.empty _ _, Below.refl _ _⟩
  | some ad =>
    have HS := Lib.hid (RdE.below h (b1 (.cells #[] 64))).src
    have HO := Lib.hid (OwnE.newNil w)
    clear h
    have hq := fun w => Go.Lib.run_eql_slice_nil w 39 64 (some ad) n cap 0 0 Tryz.underlying39
    go_enter Tryz.func89, Tryz.ntmps89
    go_wp2_with (at_builtin; refine wp_appE rfl _ _ _ rfl w.heap.size [] L _ _ rfl rfl HO.out HS.out ?c1 ?c2 ?_)
    case c1 => simp
    case c2 => simpa using hn
    intro v' w' ho hb
    have HO' := Lib.hid ho
    have HB' := Lib.hid hb
    clear ho hb
    go_wp2
    go_ret
    exact ⟨_, rfl, HO'.out, (b1 _).trans HB'.out⟩

open Go.RowKit
set_option linter.unusedVariables false
set_option linter.unusedSimpArgs false
set_option maxRecDepth 100000 in
set_option maxHeartbeats 4000000 in
theorem isort0_anyY (cap : Nat) (w : World) :
    Calls Tryz.prog 163 #[.slice none 0 cap, .int .i64 0, .int .i64 0, .func (.func 91) #[] #[]] w fun e w' => e = .returned (.tuple #[]) ∧ w = w' := by
  go_enter Tryz.func163, Tryz.ntmps163
  go_wp2
  go_loopw [8] (fun i wr => i = .int .i64 1 ∧ wr = w) (fun _ _ => 0)
  case atStart => exact ⟨by go_num, rfl⟩
  case round =>
    obtain ⟨rfl, rfl⟩ := hrel
    go_wp2
    go_end0
    exact ⟨rfl, rfl⟩
set_option maxRecDepth 100000 in
set_option maxHeartbeats 4000000 in
theorem pdq0_anyY (cap : Nat) (l : Int) (w : World) :
    Calls Tryz.prog 129 #[.slice none 0 cap, .int .i64 0, .int .i64 0, .int .i64 l, .func (.func 91) #[] #[]] w fun e w' => e = .returned (.tuple #[]) ∧ w = w' := by
  have hc := fun w => isort0_anyY cap w
  go_enter Tryz.func129, Tryz.ntmps129
  go_wp2
  go_loopw [1, 2, 3, 10, 11, 12] (fun a b _ _ _ _ wr => a = .int .i64 0 ∧ b = .int .i64 0 ∧ wr = w) (fun _ _ _ _ _ _ _ => 0)
  case atStart => exact ⟨rfl, rfl, rfl⟩
  case round =>
    obtain ⟨rfl, rfl, rfl⟩ := hrel
    go_wp2_with (go_at_call 163; refine (hc _).mono ?_; rintro e w' ⟨rfl, rfl⟩)
    exact bodyPost_ret (v := .tuple #[]) (by simp [results, Tryz.results129, go_sem]) rfl ⟨rfl, rfl⟩
set_option maxRecDepth 100000 in
theorem sort0_anyY (cap : Nat) (w : World) :
    Calls Tryz.prog 90 #[.slice none 0 cap, .func (.func 91) #[] #[]] w fun e w' => e = .returned (.tuple #[]) ∧ w = w' := by
  have hc := fun l w => pdq0_anyY cap l w
  have hl := fun w => len_anyY 0 w (by omega) (by omega)
  go_enter Tryz.func90, Tryz.ntmps90
  go_wp2_with (first
    | (go_at_call 130; refine (hl _).mono ?_; rintro e w' ⟨⟨l, rfl⟩, rfl⟩)
    | (go_at_call 129; refine (hc _ _).mono ?_; rintro e w' ⟨rfl, rfl⟩))
  go_end0
  exact ⟨rfl, rfl⟩
theorem sortV_anyY (L : List Ent) (B : Nat) (a : Option Addr) (n cap : Nat) (w : World) (hO : OwnE B L (.slice a n cap) w) (hn : L.length ≤ 12) (hB : B ≤ w.heap.size) :
    Calls Tryz.prog 90 #[.slice a n cap, .func (.func 91) #[] #[]] w fun e w' =>
      e = .returned (.tuple #[]) ∧ OwnE B (sortE L) (.slice a n cap) w' ∧ Below B w w' := by
  have h := hO
  obtain ⟨hy, h1, h2⟩ := hO
  rcases h2 with ⟨he, hl⟩ | ⟨g, cap', cur, he, hb, hg, r⟩
  · simp only [Value.slice.injEq] at he
    obtain ⟨rfl, rfl, rfl⟩ := he
    obtain rfl := List.eq_nil_of_length_eq_zero hl
    refine (sort0_anyY 0 w).mono ?_
    rintro e w' ⟨rfl, rfl⟩
    exact ⟨rfl, h, Below.refl _ _⟩
  · simp only [Value.slice.injEq] at he
    obtain ⟨rfl, rfl, rfl⟩ := he
    exact sortF_anyY L B g cap w h hn hB
end Go.Proofs.YtjibbnknliamkaaGreatDoor
namespace Go.Proofs.YtjibbnknliamkaaGreatDoor
open Go.RowKit
set_option linter.unusedVariables false
set_option linter.unusedSimpArgs false
def keyB (L : List Int) : Bool := decide (1 ≤ L.length) && decide (L.length ≤ 32)
def itemE (L : List Int) (w : Int) : Int := if keyB L = false then 7 else if w < 1 ∨ 4294967295 < w then 5 else 0
theorem size_zero (s : ByteArray) (h : s.size = 0) : s = ByteArray.empty := by
  have := byt_len s
  rw [h] at this
  simpa [byt] using this
theorem str_ne {s : ByteArray} (h : 0 < s.size) : s.toList.isEmpty = false := by
  rw [Lib.toList_data]
  cases h' : s.data.toList with
  | nil => have := Lib.size_eq s; rw [h', List.length_nil] at this; omega
  | cons _ _ => rfl
theorem isKey_any (s : ByteArray) (w : World) (hs : s.size ≤ maxLen) :
    Calls Tryz.prog 26 #[.string s] w fun e w' => e = .returned (.bool (keyB (byt s))) ∧ w = w' := by
  unfold maxLen at hs
  unfold keyB
  rw [byt_len]
  by_cases h0 : 0 < s.size
  · have hg : (1 : Nat) ≤ s.size := h0
    have hse := str_ne h0
    go_enter Tryz.func26, Tryz.ntmps26
    go_wp2
    all_goals
      go_ret
      exact ⟨ret_bool (by simp [*] <;> omega), rfl⟩
  · obtain rfl := size_zero s (by omega)
    go_enter Tryz.func26, Tryz.ntmps26
    go_wp2
    all_goals
      go_ret
      exact ⟨rfl, rfl⟩
theorem risKey_any (s : ByteArray) (w : World) (hs : s.size ≤ maxLen) :
    Calls Tryz.prog 28 #[.string s] w fun e w' => e = .returned (.bool (keyB (byt s))) ∧ w = w' := by
  unfold maxLen at hs
  unfold keyB
  rw [byt_len]
  go_enter Tryz.func28, Tryz.ntmps28
  go_wp2
  all_goals
    go_ret
    exact ⟨ret_bool (by rw [Bool.eq_iff_iff]; simp [*] <;> omega), rfl⟩
theorem ritem_any (s : ByteArray) (n : Int) (w : World) (hs : s.size ≤ maxLen) (n0 : -9223372036854775808 ≤ n) (n1 : n ≤ 9223372036854775807) :
    Calls Tryz.prog 54 #[.agg #[.string s, .int .i64 n]] w fun e w' => e = .returned (.int .i64 (itemE (byt s) n)) ∧ Below w.heap.size w w' := by
  have hk := fun w => risKey_any s w hs
  unfold itemE
  generalize keyB (byt s) = K at *
  cases K
  all_goals
    go_enter Tryz.func54, Tryz.ntmps54
    go_wp2_with (go_at_call 28; refine (hk _).mono ?_; rintro e w' ⟨rfl, rfl⟩)
    all_goals
      go_ret
      exact ⟨ret_int (by first | rfl | (simp [*] <;> omega)), (Below.refl _ _).alloc (Nat.le_refl _) _⟩
end Go.Proofs.YtjibbnknliamkaaGreatDoor
namespace Go.Proofs.YtjibbnknliamkaaGreatDoor
open Go.RowKit
set_option linter.unusedVariables false
set_option linter.unusedSimpArgs false
/-- The error of a tally. -/
def valT (T I : Int) : Int := if 4294967295 < T ∨ I < 0 ∨ T < I then 5 else 0
/-- A count of a sum, and whether it had to be limited. -/
def sumT (T U : Int) : Int := satN (nat0 T + nat0 U) 4294967295
def sumF (T U : Int) : Bool := satF (nat0 T + nat0 U) 4294967295
theorem tval_any (T I : Int) (s : Bool) (w : World) (T0 : -9223372036854775808 ≤ T) (T1 : T ≤ 9223372036854775807) (I0 : -9223372036854775808 ≤ I) (I1 : I ≤ 9223372036854775807) :
    Calls Tryz.prog 105 #[.agg #[.int .i64 T, .int .i64 I, .bool s]] w fun e w' => e = .returned (.int .i64 (valT T I)) ∧ Below w.heap.size w w' := by
  unfold valT
  go_enter Tryz.func105, Tryz.ntmps105
  go_wp2
  all_goals
    go_ret
    exact ⟨ret_int (by first | rfl | (simp [*] <;> omega)), (Below.refl _ _).alloc (Nat.le_refl _) _⟩
theorem tnew_any (w : World) :
    Calls Tryz.prog 175 #[] w fun e w' => e = .returned (.agg #[.int .i64 0, .int .i64 0, .bool false]) ∧ Below w.heap.size w w' := by
  go_enter Tryz.func175, Tryz.ntmps175
  go_wp2
  exact bodyPost_ret (v := .agg #[.int .i64 0, .int .i64 0, .bool false]) (by simp [results, Tryz.results175, go_sem]) rfl ⟨rfl, (Below.refl _ _).alloc (Nat.le_refl _) _⟩
/-- An insertion into a tally: the counts, the flag, the error. -/
def insT (T I : Int) (s : Bool) (e x : Int) : Int × Int × Bool × Int :=
  if valT T I ≠ 0 then (0, 0, false, valT T I) else if e ≠ 0 then (0, 0, false, e) else (sumT T x, sumT I 1, s || false || sumF T x || sumF I 1, 0)
end Go.Proofs.YtjibbnknliamkaaGreatDoor
namespace Go.Proofs.YtjibbnknliamkaaGreatDoor
open Go.RowKit
set_option linter.unusedVariables false
set_option linter.unusedSimpArgs false
/-- x ^= x >> k, by its divisor. -/
def xs (d x : Int) : Int := bits .xor .u64 x (x / d)
def rot5 (h : Int) : Int := bits .or .u64 (IntKind.u64.wrap (h * 32)) (h / 576460752303423488)
def hstep (h c : Int) : Int := IntKind.u64.wrap (bits .xor .u64 (rot5 h) c * 1099511628211)
end Go.Proofs.YtjibbnknliamkaaGreatDoor
