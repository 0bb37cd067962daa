/- The program's separate and separateAll. -/
import Derived.Test.YtakickggpfbafaaClI
import Derived.Test.YtakickggpfbafaaRowG
import Derived.Deep.CutBlock
import Derived.Deep.CutRange
namespace Go.Proofs.Ytakickggpfbafaa
open Go.RowKit
set_option linter.unusedVariables false
set_option linter.unusedSimpArgs false
theorem inf_vs : (Try.prog.info? 33).map (·.size) = some 4 := by kernel_rfl
theorem put4 (x0 x1 x2 x3 y0 y1 y2 y3 : Value) : (((#[x0, x1, x2, x3].setIfInBounds 0 y0).setIfInBounds 1 y1).setIfInBounds 2 y2).setIfInBounds 3 y3 = #[y0, y1, y2, y3] := by simp
theorem RowAt.set4 {g : Nat} {x0 x1 x2 x3 : Value} {w : World} (h : RowAt g #[x0, x1, x2, x3] w) (y0 y1 y2 y3 : Value) : RowAt g #[y0, y1, y2, y3] ((((w.setCell ⟨g, 0, none⟩ y0).setCell ⟨g, 1, none⟩ y1).setCell ⟨g, 2, none⟩ y2).setCell ⟨g, 3, none⟩ y3) := by
  have := (((h.set1 0 y0).set1 1 y1).set1 2 y2).set1 3 y3
  rwa [put4] at this
set_option maxRecDepth 100000 in
set_option maxHeartbeats 1000000 in
theorem sep_any (n r k : Int) (s : Value) (p : List Int) (w : World) (hp : RdI p s w) (hl : p.length ≤ 1000000) :
    Calls Try.prog 27 #[.agg #[.int .i64 n, .int .i64 r, .int .i64 k, s]] w fun e w' => ∃ s', e = .returned (.agg #[.int .i64 n, .int .i64 r, .int .i64 k, s']) ∧ OwnI w.heap.size p s' w' ∧ Below w.heap.size w w' := by
  obtain ⟨a, cap, rfl⟩ := hp.shape
  have HC := Lib.hid (cloneI_any p _ _ (hp.below (b2 (.cells #[.int .i64 n, .int .i64 r, .int .i64 k, .slice a p.length cap] 33) (.cells #[.int .i64 0, .int .i64 0, .int .i64 0, .slice none 0 0] 33))) hl)
  clear hp
  go_enter Try.func27, Try.ntmps27
  go_wp2_with (go_at_call 33; refine HC.out.mono ?_; rintro e w1 ⟨v1, rfl, ho1, hb1⟩; obtain ⟨va, vc, rfl⟩ := ho1.rd.shape; have HR : Hid (RowAt (w.heap.size + 1) #[.int .i64 0, .int .i64 0, .int .i64 0, .slice none 0 0] w1) := Lib.hid ((RowAt.new1 w (.cells #[.int .i64 n, .int .i64 r, .int .i64 k, .slice a p.length cap] 33) #[.int .i64 0, .int .i64 0, .int .i64 0, .slice none 0 0] 33).go hb1); have HO := Lib.hid (ho1.mono (B' := w.heap.size + 2) (by simp)); have HB := Lib.hid (bgo (b2 _ _) hb1); have c0 : w1.cell? ⟨w.heap.size, 0, none⟩ = some (.int .i64 n) := ((bcell hb1).1 _ 0 (by simp; try omega)).trans (by go_simp); have c1 : w1.cell? ⟨w.heap.size, 1, none⟩ = some (.int .i64 r) := ((bcell hb1).1 _ 1 (by simp; try omega)).trans (by go_simp); have c2 : w1.cell? ⟨w.heap.size, 2, none⟩ = some (.int .i64 k) := ((bcell hb1).1 _ 2 (by simp; try omega)).trans (by go_simp); have c3 : w1.cell? ⟨w.heap.size, 3, none⟩ = some (.slice a p.length cap) := ((bcell hb1).1 _ 3 (by simp; try omega)).trans (by go_simp); have f3 : w1.frozen? ⟨w.heap.size, 3, none⟩ = false := ((bcell hb1).2 _ 3 (by simp; try omega)).trans (by go_simp); have d0 : w1.cell? ⟨w.heap.size + 1, 0, none⟩ = some (.int .i64 0) := ((bcell hb1).1 _ 0 (by simp; try omega)).trans (by go_simp); have g0 : w1.frozen? ⟨w.heap.size + 1, 0, none⟩ = false := ((bcell hb1).2 _ 0 (by simp; try omega)).trans (by go_simp); have d1 : w1.cell? ⟨w.heap.size + 1, 1, none⟩ = some (.int .i64 0) := ((bcell hb1).1 _ 1 (by simp; try omega)).trans (by go_simp); have g1 : w1.frozen? ⟨w.heap.size + 1, 1, none⟩ = false := ((bcell hb1).2 _ 1 (by simp; try omega)).trans (by go_simp); have d2 : w1.cell? ⟨w.heap.size + 1, 2, none⟩ = some (.int .i64 0) := ((bcell hb1).1 _ 2 (by simp; try omega)).trans (by go_simp); have g2 : w1.frozen? ⟨w.heap.size + 1, 2, none⟩ = false := ((bcell hb1).2 _ 2 (by simp; try omega)).trans (by go_simp); have d3 : w1.cell? ⟨w.heap.size + 1, 3, none⟩ = some (.slice none 0 0) := ((bcell hb1).1 _ 3 (by simp; try omega)).trans (by go_simp); have g3 : w1.frozen? ⟨w.heap.size + 1, 3, none⟩ = false := ((bcell hb1).2 _ 3 (by simp; try omega)).trans (by go_simp); clear ho1 hb1)
  exact ret_row rfl rfl rfl ((HR.out.oth (oth_cell _ 3 _ _) (by omega)).set4 _ _ _ _) Try.underlying33 rfl inf_vs ⟨_, rfl, (((((HO.out.keep (by omega) _ _).keep (by omega) _ _).keep (by omega) _ _).keep (by omega) _ _).keep (by omega) _ _).mono (by omega), bset (bset (bset (bset (bset HB.out _ _ _ (by omega)) _ _ _ (by omega)) _ _ _ (by omega)) _ _ _ (by omega)) _ _ _ (by omega)⟩
/-- What a store of a whole version into its own row leaves, and what stays. -/
theorem OwnVs.kpst {B g cap : Nat} {L : List Vs} {w : World} (h : OwnVs B L (.slice (some ⟨g, 0, none⟩) L.length cap) w) (hp : 0 < L.length) (j : Nat) (u0 u1 u2 u3 : Value) :
    KpT 3 w ((((w.setCell ⟨g, j, none⟩ u0).setCell ⟨g, j + 1, none⟩ u1).setCell ⟨g, j + 2, none⟩ u2).setCell ⟨g, j + 3, none⟩ u3) := by
  obtain ⟨cur, hg⟩ : ∃ cur, w.heap[g]? = some (.cells cur 33 (0, 0)) := by
    rcases h.2.2 with ⟨he, hn⟩ | ⟨g', cap', cur, he, hb, hg, _⟩
    · omega
    · simp only [Value.slice.injEq, Option.some.injEq, Addr.mk.injEq] at he
      obtain ⟨⟨rfl, _⟩, _, rfl⟩ := he
      exact ⟨cur, hg⟩
  have h1 := oth_cell g j w u0
  have h2 := oth_cell g (j + 1) (w.setCell ⟨g, j, none⟩ u0) u1
  have h3 := oth_cell g (j + 2) ((w.setCell ⟨g, j, none⟩ u0).setCell ⟨g, j + 1, none⟩ u1) u2
  have h4 := oth_cell g (j + 3) (((w.setCell ⟨g, j, none⟩ u0).setCell ⟨g, j + 1, none⟩ u1).setCell ⟨g, j + 2, none⟩ u2) u3
  refine KpT.row ne_int_vs hg ⟨(((h1.1.trans h2.1).trans h3.1).trans h4.1), fun b hb => ?_⟩
  rw [h4.2 b hb, h3.2 b hb, h2.2 b hb, h1.2 b hb]
theorem vs_mid (M1 M : List Vs) (q : Nat) (h : M1.length = q) (hq : q < M.length) : (M1 ++ M.drop q).getD q Vs.z = M.getD q Vs.z := by
  subst h
  simp only [List.getD_eq_getElem?_getD]
  rw [List.getElem?_append_right (Nat.le_refl _), Nat.sub_self, List.getElem?_drop, Nat.add_zero]
theorem vs_mid_set (M1 M : List Vs) (q : Nat) (x : Vs) (h : M1.length = q) (hq : q < M.length) : (M1 ++ M.drop q).set q x = (M1 ++ [x]) ++ M.drop (q + 1) := by
  subst h
  rw [List.set_append_right _ _ (Nat.le_refl _), Nat.sub_self, List.drop_eq_getElem_cons hq, List.set_cons_zero]
  simp
/-- The loop's state. -/
def SaS (q : Nat) (M : List Vs) (L : List Vn) (v : Value) (w wr : World) : Prop := ∃ M1, M1.length = q ∧ OwnVs w.heap.size (M1 ++ M.drop q) v wr ∧ VmAt w.heap.size M1 (L.take q) wr ∧ Below w.heap.size w wr
set_option maxRecDepth 100000 in
set_option maxHeartbeats 4000000 in
theorem sepall_any (M : List Vs) (L : List Vn) (v : Value) (w : World) (hv : RdVs M v w) (hp : VmAt 0 M L w) (hL : L.length ≤ 1000) (hpl : ∀ x ∈ L, x.p.length ≤ 1000000) :
    Calls Try.prog 28 #[v] w fun e w' => ∃ v' M', e = .returned v' ∧ OwnVs w.heap.size M' v' w' ∧ VmAt w.heap.size M' L w' ∧ Below w.heap.size w w' := by
  have hlen := hp.len
  have HC := Lib.hid (cloneVs_any M _ _ hv (by omega))
  obtain ⟨a, cap, rfl⟩ := hv.shape
  have HP := Lib.hid hp
  have HPL := Lib.hid hpl
  have HLE := Lib.hid hlen
  clear hv hp hpl
  rw [hlen] at HC ⊢
  clear hlen
  go_enter Try.func28, Try.ntmps28
  go_wp2_with (go_at_call 34; refine HC.out.mono ?_; rintro e w1 ⟨v1, rfl, ho1, hb1⟩; obtain ⟨va, vc, rfl⟩ := ho1.rd.shape; have HO := Lib.hid ho1; have HB := Lib.hid hb1; rw [HLE.out]; clear ho1 hb1)
  go_loopw [4, 5, 10] (fun _ _ i wr => ∃ q : Nat, q ≤ L.length ∧ i = .int .i64 (q : Int) ∧ Hid (SaS q M L (.slice va L.length vc) w wr)) (fun _ _ i _ => L.length - (intOf i).toNat)
  case atStart => exact ⟨0, by omega, rfl, Lib.hid ⟨[], rfl, by have := HO.out; rw [HLE.out] at this; simpa using this, trivial, HB.out⟩⟩
  case round =>
    clear HO HB HC
    obtain ⟨q, hq, rfl, HI⟩ := hrel
    obtain ⟨M1, h1, ho, hm, hb⟩ := HI.out
    have HL2 : Hid ((M1 ++ M.drop q).length = L.length) := Lib.hid (by have := HLE.out; simp; omega)
    have HO : Hid (OwnVs w.heap.size (M1 ++ M.drop q) (.slice va (M1 ++ M.drop q).length vc) wr) := Lib.hid (by rw [HL2.out]; exact ho)
    have HM := Lib.hid hm
    have HB := Lib.hid hb
    have H1 := Lib.hid h1
    clear HI ho hm hb h1
    by_cases hlt : q < L.length
    · have hqi : (q : Int) < (L.length : Int) := by omega
      have HLT : Hid (q < (M1 ++ M.drop q).length) := Lib.hid (by rw [HL2.out]; exact hlt)
      obtain ⟨g, rfl, hg1, hg2, -, hg3, -⟩ := HO.out.block (by have := HLT.out; omega)
      have HG := Lib.hid hg1
      have HG2 := Lib.hid hg2
      have hcs := HO.out.cellsAt HLT.out
      rw [vs_mid M1 M q H1.out (by have := HLE.out; omega)] at hcs
      obtain ⟨c0, c1, c2, c3⟩ := hcs
      have hat := (HP.out.at_ hlt)
      have hpx := HPL.out (L.getD q Vn.z) (by simp [List.getD, hlt])
      have HTK : Hid (L.take (q + 1) = L.take q ++ [L.getD q Vn.z]) := Lib.hid (by rw [List.take_add_one]; simp [List.getD, hlt])
      have HOKX := Lib.hid ((HO.out.1.at_ q))
      rw [vs_mid M1 M q H1.out (by have := HLE.out; omega)] at HOKX
      generalize L.getD q Vn.z = y at *
      generalize M.getD q Vs.z = x at *
      obtain ⟨n, r, k, s⟩ := x
      obtain ⟨yn, yr, yk, p⟩ := y
      obtain ⟨e1, e2, e3, hown⟩ := hat
      have e1 : n = yn := e1
      have e2 : r = yr := e2
      have e3 : k = yk := e3
      subst e1 e2 e3
      have hown : OwnI 0 p s w := hown
      have hpx : p.length ≤ 1000000 := hpx
      obtain ⟨sa, sc, rfl⟩ := hown.rd.shape
      have c0 : wr.cell? ⟨g, q * 4, none⟩ = some (.int .i64 n) := c0
      have c1 : wr.cell? ⟨g, q * 4 + 1, none⟩ = some (.int .i64 r) := c1
      have c2 : wr.cell? ⟨g, q * 4 + 2, none⟩ = some (.int .i64 k) := c2
      have c3 : wr.cell? ⟨g, q * 4 + 3, none⟩ = some (.slice sa p.length sc) := c3
      have HC := Lib.hid (sep_any n r k (.slice sa p.length sc) p (wr.alloc (.cells #[.int .i64 n, .int .i64 r, .int .i64 k, .slice sa p.length sc] 33)) ((hown.rd.below HB.out).below (b1 _)) hpx)
      clear hown hpx hg1 hg2 hg3
      go_wp2_with (go_at_call 27; refine HC.out.mono ?_; rintro e w2 ⟨s2, rfl, ho2, hb2⟩; obtain ⟨ya, yc, rfl⟩ := ho2.rd.shape; have HO2 := Lib.hid (ho2.mono (B' := w.heap.size) (by have := HB.out.size; simp; omega)); have B2 := Lib.hid (bgo (b1 _) hb2); have OV2 := Lib.hid (HO.out.below B2.out); have d0 : w2.cell? ⟨g, q * 4, none⟩ = some (.int .i64 n) := (bcell B2.out).1 _ _ HG2.out |>.trans c0; have f0 := OV2.out.frozen (q * 4); have d1 : w2.cell? ⟨g, q * 4 + 1, none⟩ = some (.int .i64 r) := (bcell B2.out).1 _ _ HG2.out |>.trans c1; have f1 := OV2.out.frozen (q * 4 + 1); have d2 : w2.cell? ⟨g, q * 4 + 2, none⟩ = some (.int .i64 k) := (bcell B2.out).1 _ _ HG2.out |>.trans c2; have f2 := OV2.out.frozen (q * 4 + 2); have d3 : w2.cell? ⟨g, q * 4 + 3, none⟩ = some (.slice sa p.length sc) := (bcell B2.out).1 _ _ HG2.out |>.trans c3; have f3 := OV2.out.frozen (q * 4 + 3); clear ho2 hb2)
      have HX2 : Hid (Vs.ok ⟨n, r, k, .slice ya p.length yc⟩) := Lib.hid ⟨HOKX.out.1, HOKX.out.2.1, HOKX.out.2.2.1, _, _, _, rfl⟩
      have HST := Lib.hid (OV2.out.stored q HX2.out)
      have HKP := Lib.hid (OV2.out.kpst (by have := HLT.out; omega) (q * 4) (.int .i64 n) (.int .i64 r) (.int .i64 k) (.slice ya p.length yc))
      rw [vs_mid_set M1 M q _ H1.out (by have := HLE.out; omega), HL2.out] at HST
      go_roundw
      case rel => exact ⟨q + 1, by omega, by go_num, Lib.hid ⟨M1 ++ [⟨n, r, k, .slice ya p.length yc⟩], by simp [H1.out], HST.out, by rw [HTK.out]; exact ((HM.out.below B2.out).snoc ⟨rfl, rfl, rfl, HO2.out⟩).kpt HKP.out, bset (bset (bset (bset (HB.out.trans (B2.out.mono HB.out.size)) _ _ _ HG.out) _ _ _ HG.out) _ _ _ HG.out) _ _ _ HG.out⟩⟩
      case measure => simp [intOf]; omega
    · obtain rfl : q = L.length := by omega
      go_wp2
      go_ret
      exact ⟨_, M1, rfl, by have := HO.out; rw [HL2.out, List.drop_eq_nil_of_le (by have := HLE.out; omega), List.append_nil] at this; exact this, by have := HM.out; rwa [List.take_length] at this, HB.out⟩
end Go.Proofs.Ytakickggpfbafaa
