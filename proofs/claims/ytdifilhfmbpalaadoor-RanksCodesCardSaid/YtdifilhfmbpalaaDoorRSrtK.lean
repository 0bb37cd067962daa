/- The contract of the reference's sorted. -/
import Derived.Test.YtdifilhfmbpalaaDoorRkM
import Derived.Test.YtdifilhfmbpalaaDoorStepApp
import Derived.Deep.QuietTactic
import Derived.BigQuiet
namespace Go.Proofs.YtdifilhfmbpalaaDoor
open Go.RowKit
set_option linter.unusedVariables false
set_option linter.unusedSimpArgs false
theorem bsetB {B : Nat} {a w : World} (h : Below B a w) (k o : Nat) (v : Value) (hk : B ≤ k) : Below B a (w.setCell ⟨k, o, none⟩ v) := h.setCell (p := ⟨k, o, none⟩) hk v
theorem OwnS.block {B : Nat} {L : List ByteArray} {a : Option Addr} {n cap : Nat} {w : World} (h : OwnS B L (.slice a n cap) w) (hp : 0 < L.length) : ∃ g, a = some ⟨g, 0, none⟩ ∧ n = L.length ∧ B ≤ g ∧ g < w.heap.size := by
  have h2 := h.2
  rcases h2 with ⟨he, hn⟩ | ⟨g, cap', cur, he, hb, _⟩
  · omega
  · simp only [Value.slice.injEq] at he
    obtain ⟨rfl, hnl, rfl⟩ := he
    exact ⟨g, rfl, hnl, hb, (h.lt (g := g) rfl).2⟩
theorem OwnS.cellAt {B : Nat} {L : List ByteArray} {g n cap : Nat} {w : World} (h : OwnS B L (.slice (some ⟨g, 0, none⟩) n cap) w) {j : Nat} (hj : j < L.length) : w.cell? ⟨g, j, none⟩ = some (.string (L.getD j ByteArray.empty)) ∧ w.frozen? ⟨g, j, none⟩ = false := by
  obtain ⟨g', he, hn, -, -⟩ := h.block (by omega)
  cases he
  subst hn
  exact ⟨(World.ownsRow.cellAt h j (by omega)).trans (cellsS_at hj), World.ownsRow.frozenAt h j⟩
theorem OwnS.put {B : Nat} {L : List ByteArray} {g n cap : Nat} {w : World} (h : OwnS B L (.slice (some ⟨g, 0, none⟩) n cap) w) (hp : 0 < L.length) (j : Nat) (c : ByteArray) : OwnS B (L.set j c) (.slice (some ⟨g, 0, none⟩) n cap) (w.setCell ⟨g, j, none⟩ (.string c)) := by
  obtain ⟨g', he, hn, -, -⟩ := h.block hp
  cases he
  subst hn
  have := (World.ownsRow.stored h j (.string c)).1
  unfold OwnS
  rw [List.length_set]
  have e : (cellsS L).set j (.string c) = cellsS (L.set j c) := by simp [cellsS, List.map_set]
  rw [← e]
  exact this
def SrtJ (B : Nat) (W : World) (C : List ByteArray) (g n cap : Nat) (w : World) : Prop := OwnS B C (.slice (some ⟨g, 0, none⟩) n cap) w ∧ Below B W w ∧ C.length = n ∧ B ≤ g
theorem SrtJ.swp {B : Nat} {W : World} {C : List ByteArray} {g n cap : Nat} {w : World} (h : SrtJ B W C g n cap w) {q : Nat} (hq : q + 1 < n) {X Y : ByteArray} (hX : C.getD (q + 1) ByteArray.empty = X) (hY : C.getD q ByteArray.empty = Y) :
    SrtJ B W (swpK C (q + 1)) g n cap ((w.setCell ⟨g, q + 1, none⟩ (.string Y)).setCell ⟨g, q, none⟩ (.string X)) := by
  obtain ⟨h1, h2, h3, hg⟩ := h
  have e : swpK C (q + 1) = (C.set (q + 1) Y).set q X := by unfold swpK; rw [Nat.add_sub_cancel, hX, hY]
  refine ⟨?_, bsetB (bsetB h2 _ _ _ hg) _ _ _ hg, by rw [swp_lenK]; exact h3, hg⟩
  rw [e]
  exact (h1.put (by omega) (q + 1) Y).put (by rw [List.length_set]; omega) q X
theorem SrtJ.drewN {B : Nat} {W : World} {C : List ByteArray} {g n cap : Nat} {w : World} (h : SrtJ B W C g n cap w) (k : Nat) : SrtJ B W C g n cap (w.drewN k) := ⟨h.1.drewN k, below_drewN h.2.1 k, h.2.2⟩
set_option maxRecDepth 100000 in
set_option maxHeartbeats 4000000 in
theorem rsorted_any (L : List ByteArray) (v : Value) (w : World) (hv : RdS L v w) (hn : L.length ≤ 549755813888) :
    Calls Tryd.prog 72 #[v] w fun e w' => ∃ u, e = .returned u ∧ OwnS w.heap.size (sortK L) u w' ∧ Below w.heap.size w w' := by
  have HR := Lib.hid hv
  obtain ⟨a, cap, rfl⟩ := hv.shape
  clear hv
  go_enter Tryd.func72, Tryd.ntmps72
  go_wp2
  go_loopw [3, 4, 5] (fun o i _ wr => ∃ k : Nat, k ≤ L.length ∧ i = .int .i64 (k : Int) ∧ Hid (OwnS w.heap.size (srtK L k) o wr ∧ Below w.heap.size w wr)) (fun _ i _ _ => L.length - (intOf i).toNat)
  case atStart => exact ⟨0, by omega, rfl, Lib.hid ⟨OwnS.empty _ _, Below.refl _ _⟩⟩
  case round =>
    obtain ⟨k, hk, rfl, HI⟩ := hrel
    by_cases hlt : k < L.length
    · have hlt2 : (k : Int) < (L.length : Int) := by omega
      obtain ⟨b, off, rfl, hb, c0⟩ := (HR.out.below HI.out.2).cell hlt
      have HZ := Lib.hid (srt_succK hlt)
      have HL := Lib.hid (srt_lenK L hk)
      generalize L.getD k ByteArray.empty = X at *
      have HO := Lib.hid (HI.out.1.alloc (.cells #[.string X] 9))
      have HS := Lib.hid (OwnS.one X wr).rd.src
      have HB := Lib.hid (bal HI.out.2 (.cells #[.string X] 9))
      go_wp2_with (at_builtin; refine wp_appS rfl _ _ _ rfl w.heap.size (srtK L k) [X] _ _ rfl rfl HO.out HS.out ?s1 ?s2 ?_)
      case s1 => exact HB.out.size
      case s2 => rw [HL.out]; simp; omega
      intro v1 w1 ho1 hb1
      obtain ⟨a1, cap1, rfl⟩ := ho1.rd.shape
      have hl1 : (srtK L k ++ [X]).length = k + 1 := by rw [List.length_append, HL.out]; rfl
      rw [hl1] at ho1 ⊢
      obtain ⟨g, rfl, -, hg, -⟩ := ho1.block (by omega)
      have HI1 := Lib.hid (show SrtJ w.heap.size w (srtK L k ++ [X]) g (k + 1) cap1 w1 from ⟨ho1, HB.out.trans hb1, hl1, hg⟩)
      have HZ1 : Hid (sinkK (srtK L k ++ [X]) k = srtK L (k + 1)) := Lib.hid HZ.out.symm
      clear ho1 hb1 hl1 HI HO HS HB HL HZ c0 hb
      go_wp2
      go_loopw [5] (fun j wr' => ∃ (m : Nat) (C : List ByteArray), m ≤ k ∧ j = .int .i64 (m : Int) ∧ Hid (SrtJ w.heap.size w C g (k + 1) cap1 wr') ∧ Hid (sinkK C m = srtK L (k + 1))) (fun j _ => (intOf j).toNat)
      case atStart => exact ⟨k, _, Nat.le_refl _, by go_num, HI1, HZ1⟩
      case round =>
        clear HI1 HZ1
        obtain ⟨m, C, hm, rfl, HI, HZ⟩ := hrel
        cases m with
        | zero =>
          go_wp2
          go_quiet (fail)
          go_wp2
          refine ⟨⟨k + 1, by omega, by go_num, Lib.hid ?_⟩, by simp [intOf]; omega⟩
          have h1 := HI.out.drewN
          have h2 : C = srtK L (k + 1) := HZ.out
          rw [h2] at h1
          exact ⟨(h1 _).1, (h1 _).2.1⟩
        | succ q =>
          have hC := HI.out.2.2.1
          have hq : (q : Int) + 1 < (k : Int) + 1 := by omega
          have hq2 : (q : Int) < (k : Int) + 1 := by omega
          have hq3 : (0 : Int) ≤ (q : Int) := by omega
          have hq4 : (0 : Int) ≤ (q : Int) + 1 := by omega
          have hq5 : IntKind.i64.wrap ((q : Int) + 1 - 1) = (q : Int) := by rw [IntKind.wrap_i64]; omega
          have hq7 : wrap64 ((q : Int) + 1 - 1) = (q : Int) := by unfold wrap64; omega
          have hq8 : IntKind.i64.wrap (q : Int) = (q : Int) := by rw [IntKind.wrap_i64]; omega
          have hq6 : (0 : Int) < (q : Int) + 1 := by omega
          have hsk : sinkK C (q + 1) = if lessK (C.getD (q + 1) ByteArray.empty) (C.getD q ByteArray.empty) = true then sinkK (swpK C (q + 1)) q else C := rfl
          rw [HZ.out] at hsk
          obtain ⟨x0, xf⟩ := HI.out.1.cellAt (j := q + 1) (by omega)
          obtain ⟨y0, yf⟩ := HI.out.1.cellAt (j := q) (by omega)
          obtain ⟨X, hX⟩ : ∃ X, C.getD (q + 1) ByteArray.empty = X := ⟨_, rfl⟩
          obtain ⟨Y, hY⟩ : ∃ Y, C.getD q ByteArray.empty = Y := ⟨_, rfl⟩
          rw [hX] at hsk x0
          rw [hY] at hsk y0
          have HX := Lib.hid hX
          have HY := Lib.hid hY
          clear hX hY
          cases hbe : lessK X Y with
          | true =>
            rw [if_pos hbe] at hsk
            have HZ2 := Lib.hid hsk
            have HST := Lib.hid (fun (n : Nat) => (HI.out.drewN n).swp (by omega : q + 1 < k + 1) HX.out HY.out)
            clear hsk HZ
            unfold lessK at hbe
            go_wp2
            go_quiet (fail)
            go_wp2
            go_big_region
            have HST2 := Lib.hid (HST.out (nq + 1))
            clear HST
            go_wp2
            go_roundw
            case rel => exact ⟨q, swpK C (q + 1), by omega, by go_num, HST2, Lib.hid HZ2.out.symm⟩
            case measure => simp [intOf]
          | false =>
            rw [if_neg (by rw [hbe]; simp)] at hsk
            have HZ2 := Lib.hid hsk
            clear hsk HZ
            unfold lessK at hbe
            go_wp2
            go_quiet (fail)
            go_wp2
            refine ⟨⟨k + 1, by omega, by go_num, Lib.hid ?_⟩, by simp [intOf]; omega⟩
            have h1 := HI.out.drewN
            have h2 : C = srtK L (k + 1) := HZ2.out.symm
            rw [h2] at h1
            exact ⟨(h1 _).1, (h1 _).2.1⟩
    · obtain rfl : k = L.length := by omega
      have hnlt : ¬ (L.length : Int) < (L.length : Int) := by omega
      have HIX := Lib.hid HI.out
      rw [srt_allK] at HIX
      clear HI
      go_wp2
      go_ret
      exact ⟨_, rfl, HIX.out.1, HIX.out.2⟩
end Go.Proofs.YtdifilhfmbpalaaDoor
