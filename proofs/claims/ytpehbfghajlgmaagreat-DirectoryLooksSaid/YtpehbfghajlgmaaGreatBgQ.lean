/- The reference's place. -/
import Derived.Test.YtpehbfghajlgmaaGreatBgP
import Derived.Test.YtpehbfghajlgmaaGreatRegQ
import Derived.BigRegion
import Derived.Test.YtpehbfghajlgmaaGreatMeetX
import Derived.Deep.RegionHeld3
import Derived.Deep.CutBlock
import Derived.Deep.CutRange
namespace Go.Proofs.YtpehbfghajlgmaaGreat
open Go.RowKit
set_option linter.unusedVariables false
set_option linter.unusedSimpArgs false
theorem swp_bg {M : List Bg} {q : Nat} (m : Bg) (hq : q < M.length) : ((M.take (q + 1) ++ m :: M.drop (q + 1)).set (q + 1) (M.getD q Bg.z)).set q m = M.take q ++ m :: M.drop q := by
  have e1 : M.take (q + 1) = M.take q ++ [M.getD q Bg.z] := by
    rw [List.take_succ_eq_append_getElem hq]
    simp [List.getD, hq]
  have e2 : M.drop q = M.getD q Bg.z :: M.drop (q + 1) := by
    rw [List.drop_eq_getElem_cons hq]
    simp [List.getD, hq]
  have l1 : (M.take q).length = q := by rw [List.length_take]; omega
  rw [e2, e1, List.append_assoc]
  rw [List.set_append_right _ _ (by omega), l1]
  simp only [show q + 1 - q = 1 by omega, List.cons_append, List.nil_append, List.set_cons_succ, List.set_cons_zero]
  rw [List.set_append_right _ _ (by omega), l1]
  simp [List.getD, hq]
theorem bmid_at {M : List Bg} {k : Nat} (m : Bg) (hk : k ≤ M.length) : (M.take k ++ m :: M.drop k).getD k Bg.z = m := by
  have l1 : (M.take k).length = k := by rw [List.length_take]; omega
  simp [List.getD, List.getElem?_append_right, l1]
theorem bmid_low {M : List Bg} {q : Nat} (m : Bg) (hq : q < M.length) : (M.take (q + 1) ++ m :: M.drop (q + 1)).getD q Bg.z = M.getD q Bg.z := by
  have l1 : (M.take (q + 1)).length = q + 1 := by rw [List.length_take]; omega
  simp [List.getD, List.getElem?_append_left, l1, List.getElem?_take, hq]
theorem bmid_len {M : List Bg} {k : Nat} (m : Bg) (hk : k ≤ M.length) : (M.take k ++ m :: M.drop k).length = M.length + 1 := by
  simp
  omega
/-- What the exchange of two neighbours leaves. -/
theorem swp_bgo {B g cap q : Nat} {M : List Bg} {m : Bg} {N : Nat} {w : World} (hq : q < M.length) (hN : N = M.length + 1) (h : OwnBg B (M.take (q + 1) ++ m :: M.drop (q + 1)) (.slice (some ⟨g, 0, none⟩) N cap) w) (hX : m.ok) (hY : (M.getD q Bg.z).ok) :
    OwnBg B (M.take q ++ m :: M.drop q) (.slice (some ⟨g, 0, none⟩) N cap) ((((((((w.setCell ⟨g, (q + 1) * 4, none⟩ (.string (M.getD q Bg.z).n)).setCell ⟨g, (q + 1) * 4 + 1, none⟩ (.int .i64 (M.getD q Bg.z).r)).setCell ⟨g, (q + 1) * 4 + 2, none⟩ (.int .i64 (M.getD q Bg.z).k)).setCell ⟨g, (q + 1) * 4 + 3, none⟩ (.int .i64 (M.getD q Bg.z).s)).setCell
      ⟨g, q * 4, none⟩ (.string m.n)).setCell ⟨g, q * 4 + 1, none⟩ (.int .i64 m.r)).setCell ⟨g, q * 4 + 2, none⟩ (.int .i64 m.k)).setCell ⟨g, q * 4 + 3, none⟩ (.int .i64 m.s)) := by
  have e : N = (M.take (q + 1) ++ m :: M.drop (q + 1)).length := by rw [bmid_len m (by omega), hN]
  rw [e] at h
  have h1 := h.stored (q + 1) hY
  have e1 : (M.take (q + 1) ++ m :: M.drop (q + 1)).length = ((M.take (q + 1) ++ m :: M.drop (q + 1)).set (q + 1) (M.getD q Bg.z)).length := by rw [List.length_set]
  rw [e1] at h1
  have h2 := h1.stored q hX
  rw [swp_bg m hq, ← e1, ← e] at h2
  exact h2
theorem OwnBg.drw {B : Nat} {L : List Bg} {v : Value} {w : World} (h : OwnBg B L v w) : OwnBg B L v w.drew := h
/-- x comes before y. -/
def befB (x y : Bg) : Bool := lessK x.n y.n || (decide (x.n = y.n) && decide (x.k < y.k))
/-- The place q of x in L. -/
def PlcAt (L : List Bg) (x : Bg) (q : Nat) : Prop := q ≤ L.length ∧ (∀ j, q ≤ j → j < L.length → befB x (L.getD j Bg.z) = true) ∧ (0 < q → befB x (L.getD (q - 1) Bg.z) = false)
set_option maxRecDepth 100000 in
set_option maxHeartbeats 2000000 in
theorem rplace_any (L : List Bg) (u : Value) (m : ByteArray) (r k s : Int) (w : World) (hv : RdBg L u w) (hL : L.length ≤ 1000000) (hx : Bg.ok ⟨m, r, k, s⟩) :
    Calls Tryz.prog 32 #[u, .agg #[.string m, .int .i64 r, .int .i64 k, .int .i64 s]] w fun e w' => ∃ v q, e = .returned v ∧ OwnBg w.heap.size (L.take q ++ (⟨m, r, k, s⟩ : Bg) :: L.drop q) v w' ∧ PlcAt L (⟨m, r, k, s⟩ : Bg) q ∧ Below w.heap.size w w' := by
  obtain ⟨a1, cap1, rfl⟩ := hv.shape
  have HOK := Lib.hid hx
  have HL := Lib.hid hL
  have HVB := Lib.hid (hv.below (b1 (.cells #[.string m, .int .i64 r, .int .i64 k, .int .i64 s] 27)))
  have HB4 := Lib.hid (b1 (a := w) (.cells #[.string m, .int .i64 r, .int .i64 k, .int .i64 s] 27))
  have HBX := Lib.hid (show ∀ W, Below (w.alloc (.cells #[.string m, .int .i64 r, .int .i64 k, .int .i64 s] 27)).heap.size (w.alloc (.cells #[.string m, .int .i64 r, .int .i64 k, .int .i64 s] 27)) W → W.cell? ⟨w.heap.size, 0, none⟩ = some (.string m) ∧ W.cell? ⟨w.heap.size, 1, none⟩ = some (.int .i64 r) ∧ W.cell? ⟨w.heap.size, 2, none⟩ = some (.int .i64 k) ∧ W.cell? ⟨w.heap.size, 3, none⟩ = some (.int .i64 s) from fun W hb => ⟨((bcell hb).1 _ 0 (by simp)).trans (by go_simp), ((bcell hb).1 _ 1 (by simp)).trans (by go_simp), ((bcell hb).1 _ 2 (by simp)).trans (by go_simp), ((bcell hb).1 _ 3 (by simp)).trans (by go_simp)⟩)
  clear hv hx
  go_enter Tryz.func32, Tryz.ntmps32
  go_upto_region 1 with fail
  generalize w.alloc (.cells #[.string m, .int .i64 r, .int .i64 k, .int .i64 s] 27) = w4 at *
  have HSRC : Hid (∀ W, Below w4.heap.size w4 W → FromBg L 22 (.slice a1 L.length cap1) W) := Lib.hid (fun W hb => (HVB.out.below hb).src)
  have S0 := HBX.out w4 (Below.refl _ _)
  have S1 := HBX.out w4.drew (below_drew (Below.refl _ _))
  refine wp_meetX 5 7 5 (fun v wx => Hid (∃ a6 c6, v = .slice a6 (L.length + 1) c6 ∧ OwnBg w4.heap.size (L ++ [(⟨m, r, k, s⟩ : Bg)]) v wx ∧ Below w4.heap.size w4 wx)) ?_ ?_
  · intro G hG
    go_region_held3 (fun u => u.cell? ⟨w.heap.size, 0, none⟩ = some (.string m) ∧ u.cell? ⟨w.heap.size, 1, none⟩ = some (.int .i64 r) ∧ u.cell? ⟨w.heap.size, 2, none⟩ = some (.int .i64 k) ∧ u.cell? ⟨w.heap.size, 3, none⟩ = some (.int .i64 s)) (first | with_reducible assumption | go_keep) (first
      | (refine step_appBg rfl _ _ 22 rfl w4.heap.size L [(⟨m, r, k, s⟩ : Bg)] _ _ rfl rfl (by first | exact O5.out | exact O5.out.alloc _) (by first | exact (OwnBg.one HOK.out _).rd.src | exact (((OwnBg.one HOK.out w4.drew).below C5.out).rd).src) (by first | exact B5.out.size | exact Nat.le_trans B5.out.size (Go.Proofs.YtpehbfghajlgmaaGreat.b1 _).size) (by have := HL.out; simp; omega) ?_; (intro v6 w6 o6 hb6; have O6 := Lib.hid o6; have B6 : Hid (Below w4.heap.size w4 w6) := Lib.hid (by first | exact B5.out.trans hb6 | exact (B5.out.trans ((Go.Proofs.YtpehbfghajlgmaaGreat.b1 _).mono B5.out.size)).trans hb6); have S6 := HBX.out w6 B6.out; clear o6 hb6))
      | (refine step_appBg rfl _ _ 22 rfl _ [] L _ _ rfl rfl (OwnBg.empty _ _) (HSRC.out _ (by first | exact (Below.refl _ _).drew | exact (Go.Proofs.YtpehbfghajlgmaaGreat.b1 _).drew | exact (Below.refl _ _).drew.trans (Go.Proofs.YtpehbfghajlgmaaGreat.b1 _))) (Nat.le_refl _) (by have := HL.out; simp; omega) ?_; (intro v5 w5 o5 hb5; rw [List.nil_append] at o5; have O5 : Hid (OwnBg w4.heap.size L v5 w5) := Lib.hid (o5.mono (by first | exact Nat.le_refl _ | exact (Go.Proofs.YtpehbfghajlgmaaGreat.b1 (a := w4) _).size)); have C5 := Lib.hid hb5; have B5 : Hid (Below w4.heap.size w4 w5) := Lib.hid (by first | exact (Below.refl _ _).drew.trans hb5 | exact ((Below.refl _ _).drew.trans (Go.Proofs.YtpehbfghajlgmaaGreat.b1 _)).trans (hb5.mono (Go.Proofs.YtpehbfghajlgmaaGreat.b1 (a := w4) _).size) | exact (Go.Proofs.YtpehbfghajlgmaaGreat.b1 _).drew.trans (hb5.mono (Go.Proofs.YtpehbfghajlgmaaGreat.b1 (a := w4) _).size)); have S5 := HBX.out w5 B5.out; clear o5 hb5)))
    all_goals
      obtain ⟨a6, c6, rfl⟩ := O6.out.rd.shape
      have hl6 : (L ++ [(⟨m, r, k, s⟩ : Bg)]).length = L.length + 1 := by rw [List.length_append]; rfl
      rw [hl6] at O6 ⊢
      exact hG _ _ _ ⟨[_, _, _, _, _], rfl, rfl⟩ (Lib.hid ⟨_, _, rfl, O6.out, B6.out⟩)
  intro aX wX vX hoff HX
  obtain ⟨us, hus, rfl⟩ := hoff
  match us, hus with
  | [u0, u1, u2, u3, u4], _ =>
    simp only [List.set_cons_succ, List.set_cons_zero, List.take_succ_cons, List.take_zero, List.drop_succ_cons, List.drop_zero, List.cons_append, List.nil_append]
    obtain ⟨a6, c6, rfl, o6, b6⟩ := HX.out
    obtain ⟨g, rfl, hg, -, -, hq1, hq2⟩ := o6.block (by simp)
    have HG := Lib.hid hg
    have HI : Hid (OwnBg w4.heap.size (L.take L.length ++ (⟨m, r, k, s⟩ : Bg) :: L.drop L.length) (.slice (some ⟨g, 0, none⟩) (L.length + 1) c6) wX) := Lib.hid (by
      rw [List.take_length, List.drop_length]
      exact o6)
    have HW := Lib.hid (bgo HB4.out b6)
    clear HX o6 b6 S0 S1 HBX HSRC hg
    go_wp2
    go_loopw [6] (fun v wr => ∃ q : Nat, q ≤ L.length ∧ v = .int .i64 (q : Int) ∧ Hid (OwnBg w4.heap.size (L.take q ++ (⟨m, r, k, s⟩ : Bg) :: L.drop q) (.slice (some ⟨g, 0, none⟩) (L.length + 1) c6) wr) ∧ Hid (∀ j, q ≤ j → j < L.length → befB (⟨m, r, k, s⟩ : Bg) (L.getD j Bg.z) = true) ∧ Hid (Below w.heap.size w wr)) (fun v _ => (intOf v).toNat)
    case atStart => exact ⟨L.length, Nat.le_refl _, by go_num, HI, Lib.hid (fun j h1 h2 => by omega), HW⟩
    case round =>
      clear HI HW
      obtain ⟨q, hq, rfl, HI, HF, HW⟩ := hrel
      cases q with
      | zero =>
        have HQ := Lib.hid (show PlcAt L (⟨m, r, k, s⟩ : Bg) 0 from ⟨hq, HF.out, fun h => by omega⟩)
        go_wp2
        go_quiet (fail)
        go_wp2
        go_ret
        exact ⟨_, 0, rfl, HI.out.mono HB4.out.size, HQ.out, below_drewN HW.out _⟩
      | succ j =>
        have hjL : j < L.length := by omega
        have HJL := Lib.hid hjL
        have hq1 : (j : Int) + 1 < (L.length : Int) + 1 := by omega
        have hq2 : (j : Int) < (L.length : Int) + 1 := by omega
        have hq3 : (0 : Int) ≤ (j : Int) := by omega
        have hq4 : (0 : Int) ≤ (j : Int) + 1 := by omega
        have hq5 : IntKind.i64.wrap ((j : Int) + 1 - 1) = (j : Int) := by rw [IntKind.wrap_i64]; omega
        have hq7 : wrap64 ((j : Int) + 1 - 1) = (j : Int) := by unfold wrap64; omega
        have hq8 : IntKind.i64.wrap (j : Int) = (j : Int) := by rw [IntKind.wrap_i64]; omega
        have hq6 : (0 : Int) < (j : Int) + 1 := by omega
        have hown := HI.out
        have eN : L.length + 1 = (L.take (j + 1) ++ (⟨m, r, k, s⟩ : Bg) :: L.drop (j + 1)).length := by rw [bmid_len (⟨m, r, k, s⟩ : Bg) (by omega)]
        rw [eN] at hown
        obtain ⟨x0, x1, x2, x3⟩ := hown.cellsAt (j := j + 1) (by rw [← eN]; omega)
        obtain ⟨y0, y1, y2, y3⟩ := hown.cellsAt (j := j) (by rw [← eN]; omega)
        rw [bmid_at (⟨m, r, k, s⟩ : Bg) (by omega)] at x0 x1 x2 x3
        rw [bmid_low (⟨m, r, k, s⟩ : Bg) hjL] at y0 y1 y2 y3
        simp only at x0 x1 x2 x3
        have HYO : Hid (Bg.ok (L.getD j Bg.z)) := Lib.hid (by
          have := hown.1.at_ j
          rwa [bmid_low (⟨m, r, k, s⟩ : Bg) hjL] at this)
        have HFX : Hid (befB (⟨m, r, k, s⟩ : Bg) (L.getD j Bg.z) = true → ∀ i, j ≤ i → i < L.length → befB (⟨m, r, k, s⟩ : Bg) (L.getD i Bg.z) = true) := Lib.hid (fun h i h1 h2 => by
          rcases Nat.lt_or_ge j i with h' | h'
          · exact HF.out i h' h2
          · obtain rfl : i = j := by omega
            exact h)
        have HQ := Lib.hid (fun (h : befB (⟨m, r, k, s⟩ : Bg) (L.getD j Bg.z) = false) => (show PlcAt L (⟨m, r, k, s⟩ : Bg) (j + 1) from ⟨hq, HF.out, fun _ => h⟩))
        clear hown eN hjL
        obtain ⟨Y, hY⟩ : ∃ Y, L.getD j Bg.z = Y := ⟨_, rfl⟩
        rw [hY] at y0 y1 y2 y3 HFX HQ
        have HYY := Lib.hid hY
        clear hY
        obtain ⟨m', r', k', s'⟩ := Y
        simp only at y0 y1 y2 y3
        by_cases h1 : lessK m m' = true
        · have h1b : Op.bytesLess m.toList m'.toList = true := h1
          have HF2 := Lib.hid (HFX.out (by unfold befB; simp [h1]))
          clear HFX HQ
          go_wp2
          go_quiet (fail)
          go_upto_region 5 with (fail)
          refine wp_genW (fun w' => OwnBg w4.heap.size (L.take (j + 1) ++ (⟨m, r, k, s⟩ : Bg) :: L.drop (j + 1)) (.slice (some ⟨g, 0, none⟩) (L.length + 1) c6) w' ∧ Below w.heap.size w w') ⟨HI.out, below_drewN HW.out _⟩ ?_
          rintro w' ⟨f1, f2⟩
          clear x0 x1 x2 x3 y0 y1 y2 y3
          have hst := swp_bgo HJL.out rfl f1 HOK.out HYO.out
          rw [HYY.out] at hst
          have HST := Lib.hid hst
          have F2 := Lib.hid f2
          have hown := f1
          have eN : L.length + 1 = (L.take (j + 1) ++ (⟨m, r, k, s⟩ : Bg) :: L.drop (j + 1)).length := by rw [bmid_len (⟨m, r, k, s⟩ : Bg) (by have := HJL.out; omega)]
          rw [eN] at hown
          obtain ⟨x0, x1, x2, x3⟩ := hown.cellsAt (j := j + 1) (by rw [← eN]; have := HJL.out; omega)
          obtain ⟨y0, y1, y2, y3⟩ := hown.cellsAt (j := j) (by rw [← eN]; have := HJL.out; omega)
          rw [bmid_at (⟨m, r, k, s⟩ : Bg) (by have := HJL.out; omega)] at x0 x1 x2 x3
          rw [bmid_low (⟨m, r, k, s⟩ : Bg) HJL.out, HYY.out] at y0 y1 y2 y3
          have g0 := hown.frozen ((j + 1) * 4)
          have g1 := hown.frozen ((j + 1) * 4 + 1)
          have g2 := hown.frozen ((j + 1) * 4 + 2)
          have g3 := hown.frozen ((j + 1) * 4 + 3)
          have g4 := hown.frozen (j * 4)
          have g5 := hown.frozen (j * 4 + 1)
          have g6 := hown.frozen (j * 4 + 2)
          have g7 := hown.frozen (j * 4 + 3)
          simp only at x0 x1 x2 x3 y0 y1 y2 y3
          clear f1 f2 hst hown eN
          go_big_region
          go_wp2
          go_roundw
          case rel => exact ⟨j, by omega, by go_num, Lib.hid HST.out.drw, HF2, Lib.hid (below_drew (bset (bset (bset (bset (bset (bset (bset (bset F2.out _ _ _ (Nat.le_trans HB4.out.size HG.out)) _ _ _ (Nat.le_trans HB4.out.size HG.out)) _ _ _ (Nat.le_trans HB4.out.size HG.out)) _ _ _ (Nat.le_trans HB4.out.size HG.out)) _ _ _ (Nat.le_trans HB4.out.size HG.out)) _ _ _ (Nat.le_trans HB4.out.size HG.out)) _ _ _ (Nat.le_trans HB4.out.size HG.out)) _ _ _ (Nat.le_trans HB4.out.size HG.out)))⟩
          case measure => simp [intOf]
        · have h1f : lessK m m' = false := by simpa using h1
          have h1b : Op.bytesLess m.toList m'.toList = false := h1f
          by_cases h2 : m = m'
          · by_cases h3 : k < k'
            · have h3d : decide (k < k') = true := by simp [h3]
              subst h2
              have HF2 := Lib.hid (HFX.out (by unfold befB; simp [h3]))
              clear HFX HQ
              go_wp2
              go_quiet (fail)
              go_upto_region 5 with (fail)
              refine wp_genW (fun w' => OwnBg w4.heap.size (L.take (j + 1) ++ (⟨m, r, k, s⟩ : Bg) :: L.drop (j + 1)) (.slice (some ⟨g, 0, none⟩) (L.length + 1) c6) w' ∧ Below w.heap.size w w') ⟨HI.out, below_drewN HW.out _⟩ ?_
              rintro w' ⟨f1, f2⟩
              clear x0 x1 x2 x3 y0 y1 y2 y3
              have hst := swp_bgo HJL.out rfl f1 HOK.out HYO.out
              rw [HYY.out] at hst
              have HST := Lib.hid hst
              have F2 := Lib.hid f2
              have hown := f1
              have eN : L.length + 1 = (L.take (j + 1) ++ (⟨m, r, k, s⟩ : Bg) :: L.drop (j + 1)).length := by rw [bmid_len (⟨m, r, k, s⟩ : Bg) (by have := HJL.out; omega)]
              rw [eN] at hown
              obtain ⟨x0, x1, x2, x3⟩ := hown.cellsAt (j := j + 1) (by rw [← eN]; have := HJL.out; omega)
              obtain ⟨y0, y1, y2, y3⟩ := hown.cellsAt (j := j) (by rw [← eN]; have := HJL.out; omega)
              rw [bmid_at (⟨m, r, k, s⟩ : Bg) (by have := HJL.out; omega)] at x0 x1 x2 x3
              rw [bmid_low (⟨m, r, k, s⟩ : Bg) HJL.out, HYY.out] at y0 y1 y2 y3
              have g0 := hown.frozen ((j + 1) * 4)
              have g1 := hown.frozen ((j + 1) * 4 + 1)
              have g2 := hown.frozen ((j + 1) * 4 + 2)
              have g3 := hown.frozen ((j + 1) * 4 + 3)
              have g4 := hown.frozen (j * 4)
              have g5 := hown.frozen (j * 4 + 1)
              have g6 := hown.frozen (j * 4 + 2)
              have g7 := hown.frozen (j * 4 + 3)
              simp only at x0 x1 x2 x3 y0 y1 y2 y3
              clear f1 f2 hst hown eN
              go_big_region
              go_wp2
              go_roundw
              case rel => exact ⟨j, by omega, by go_num, Lib.hid HST.out.drw, HF2, Lib.hid (below_drew (bset (bset (bset (bset (bset (bset (bset (bset F2.out _ _ _ (Nat.le_trans HB4.out.size HG.out)) _ _ _ (Nat.le_trans HB4.out.size HG.out)) _ _ _ (Nat.le_trans HB4.out.size HG.out)) _ _ _ (Nat.le_trans HB4.out.size HG.out)) _ _ _ (Nat.le_trans HB4.out.size HG.out)) _ _ _ (Nat.le_trans HB4.out.size HG.out)) _ _ _ (Nat.le_trans HB4.out.size HG.out)) _ _ _ (Nat.le_trans HB4.out.size HG.out)))⟩
              case measure => simp [intOf]
            · have h3d : decide (k < k') = false := by simp [h3]
              subst h2
              have HQ2 := Lib.hid (HQ.out (by unfold befB; simp [h1f, h3]))
              clear HFX HQ
              go_wp2
              go_quiet (fail)
              go_wp2
              go_ret
              exact ⟨_, j + 1, rfl, HI.out.mono HB4.out.size, HQ2.out, below_drewN HW.out _⟩
          · have h2b : (m.toList == m'.toList) = false := beq_eq_false_iff_ne.2 (fun h => h2 (toL_inj h))
            have HQ2 := Lib.hid (HQ.out (by unfold befB; simp [h1f, h2]))
            clear HFX HQ
            go_wp2
            go_quiet (fail)
            go_wp2
            go_ret
            exact ⟨_, j + 1, rfl, HI.out.mono HB4.out.size, HQ2.out, below_drewN HW.out _⟩
end Go.Proofs.YtpehbfghajlgmaaGreat
