/- slices.Delete of one version; the chain without it. -/
import Derived.Test.YtakickggpfbafaaChC
import Derived.Test.YtakickggpfbafaaSlC
import Derived.Deep.CutBlock
import Derived.Deep.CutRange
namespace Go.Proofs.Ytakickggpfbafaa
open Go.RowKit
set_option linter.unusedVariables false
set_option linter.unusedSimpArgs false
theorem cellsVs_drop : ∀ (L : List Vs) (i : Nat), cellsVs (L.drop i) = (cellsVs L).drop (i * 4)
  | [], i => by simp [cellsVs]
  | x :: L, 0 => by simp
  | x :: L, i + 1 => by
    rw [List.drop_succ_cons, cellsVs_drop L i, cellsVs, show (i + 1) * 4 = 4 + i * 4 by omega, Vs.cs]
    simp [Nat.add_comm 4]
theorem VsOk.drop {L : List Vs} (h : VsOk L) (i : Nat) : VsOk (L.drop i) := fun n hn => h n (List.mem_of_mem_drop hn)
set_option maxRecDepth 100000 in
set_option maxHeartbeats 4000000 in
theorem delVs_any (L : List Vs) (B g i c : Nat) (w : World) (ho : OwnVs B L (.slice (some ⟨g, 0, none⟩) L.length c) w) (hi : i < L.length) (hB : B ≤ w.heap.size) (hL : L.length ≤ 1000000) :
    Calls Try.prog 32 #[.slice (some ⟨g, 0, none⟩) L.length c, .int .i64 (i : Int), .int .i64 ((i : Int) + 1)] w fun e w' => ∃ v', e = .returned v' ∧ OwnVs B (L.take i ++ L.drop (i + 1)) v' w' ∧ Below B w w' ∧ KpT 3 w w' ∧ (∀ b, b < w.heap.size → b ≠ g → w'.heap[b]? = w.heap[b]?) := by
  obtain ⟨i0, hi0, hz0, hz1, hz2⟩ := info_parts info_vs
  have hlen : (cellsVs L).length = L.length * 4 := cellsVs_len L
  obtain ⟨cur, -, hBg, hnc, hc63, -, -, -⟩ := row_block ho.2
  have HCU := Lib.hid (row_cut ho.2 (Nat.le_of_lt hi))
  have HBG := Lib.hid hBg
  have HOK := Lib.hid ho.1
  have HO := Lib.hid ho.2
  have HCD : Hid (((cellsVs L).drop ((i + 1) * 4)).length = (L.length - (i + 1)) * 4) := Lib.hid (by rw [List.length_drop, hlen]; omega)
  have HSC : Hid (∀ j v, ((cellsVs L).drop ((i + 1) * 4))[j]? = some v → w.cell? ⟨g, (i + 1) * 4 + j, none⟩ = some v) := Lib.hid (fun j v h => row_cell ho.2 (by rwa [List.getElem?_drop] at h))
  have HI0 := Lib.hid hi0
  have HZ0 := Lib.hid hz0
  have HZ1 := Lib.hid hz1
  unfold maxLen at hc63
  have hiL : (i : Int) + 1 ≤ (L.length : Int) := by omega
  have hy0 : (i : Int) ≤ (L.length : Int) := by omega
  have hy1 : ¬ ((i : Int) = (i : Int) + 1) := by omega
  have hy2 : (0 : Int) ≤ (i : Int) + 1 := by omega
  have hnc2 : (L.length : Int) ≤ (c : Int) := by omega
  clear ho hlen hBg hi0 hz0 hz1 hz2
  obtain ⟨N, hN⟩ : ∃ N, N + 1 = L.length := ⟨L.length - 1, by omega⟩
  have HN := Lib.hid hN
  have HNE : Hid (i + (L.length - (i + 1)) = N) := Lib.hid (by omega)
  have hy4 : (N : Int) ≤ (L.length : Int) := by omega
  have hy5 : ¬ (c = N) := by omega
  clear hN
  by_cases hcc : c = i + 1
  · have hcc2 : ¬ (c = i) := by omega
    have hcc3 : (i : Int) ≤ (i : Int) + 1 := by omega
    go_enter Try.func32, Try.ntmps32
    go_wp2
    go_region_law (refine step_roomC rfl _ _ 22 rfl i0 Try.underlying22 HI0.out HZ1.out HCU.out ⟨g, 0, none⟩ (L.length-(i+1)) 0 (by simp [Act.eval, Act.put]; try omega) (by simp [Act.eval, Act.put]; try omega) ((cellsVs L).drop ((i+1)*4)) HCD.out (fun j v h => by rw [List.drop_eq_nil_of_le (by have := cellsVs_len L; omega)] at h; simp at h) (fun v h => oneCell_vs L HOK.out v (List.mem_of_mem_drop h)) (by omega) ?_; intro w1 ho1 hg1; rw [HNE.out] at ho1 ⊢; have HO1 := Lib.hid ho1; have K1 : Hid (KpT 3 w w1) := Lib.hid (KpT.grown (w := w.drew) ne_int_vs HO.out hg1); have G1 : Hid (∀ b, b < w.heap.size → b ≠ g → w1.heap[b]? = w.heap[b]?) := Lib.hid (fun b hb hne => hg1.block b hb (fun e => by cases e; exact hne rfl)); have HB1 : Hid (Below B w w1) := Lib.hid (row_bel (w := w.drew) (g := g) (Below.refl B w).drew hB hg1 HBG.out); clear ho1 hg1)
    go_wp2_with (refine wp_clearC (k := 4) rfl _ 22 rfl _ i0 Try.underlying22 HI0.out HZ0.out rfl (by intro v hv; simp [Value.cells] at hv; rcases hv with rfl | rfl | rfl | rfl <;> rfl) (by decide) HO1.out (N * 4) (L.length - N) _ rfl (by have := HN.out; omega) (Nat.le_refl _) (by have := HN.out; omega) ?_; intro w2 ho2 hg2; have HO2 := Lib.hid ho2; have K2 : Hid (KpT 3 w1 w2) := Lib.hid (KpT.grown ne_int_vs HO1.out hg2); have G2 : Hid (∀ b, b < w.heap.size → b ≠ g → w2.heap[b]? = w.heap[b]?) := Lib.hid (fun b hb hne => (hg2.block b (Nat.lt_of_lt_of_le hb HB1.out.size) (fun e => by cases e; exact hne rfl)).trans (G1.out b hb hne)); have HB2 : Hid (Below B w w2) := Lib.hid (row_bel HB1.out (Nat.le_trans hB HB1.out.size) hg2 HBG.out); clear ho2 hg2)
    go_ret
    refine ⟨_, rfl, ⟨(HOK.out.take i).app (HOK.out.drop (i + 1)), ?_⟩, HB2.out, K1.out.trans K2.out, G2.out⟩
    rw [cellsVs_app, cellsVs_take, cellsVs_drop]
    have hlen2 : (L.take i ++ L.drop (i + 1)).length = N := by have := HN.out; simp; omega
    rw [hlen2]
    have hf := HO2.out
    rw [hcc] at hf
    exact hf
  · by_cases hcc3 : c = i
    · omega
    · have hcc4 : i ≤ c := by omega
      go_enter Try.func32, Try.ntmps32
      go_wp2
      go_region_law (refine step_roomC rfl _ _ 22 rfl i0 Try.underlying22 HI0.out HZ1.out HCU.out ⟨g, (i+1)*4, none⟩ (L.length-(i+1)) (c-(i+1)) (by simp [Act.eval, Act.put]; try omega) (by simp [Act.eval, Act.put]; try omega) ((cellsVs L).drop ((i+1)*4)) HCD.out (fun j v h => by rw [Addr.add_lit]; exact HSC.out j v h) (fun v h => oneCell_vs L HOK.out v (List.mem_of_mem_drop h)) (by omega) ?_; intro w1 ho1 hg1; rw [HNE.out] at ho1 ⊢; have HO1 := Lib.hid ho1; have K1 : Hid (KpT 3 w w1) := Lib.hid (KpT.grown (w := w.drew) ne_int_vs HO.out hg1); have G1 : Hid (∀ b, b < w.heap.size → b ≠ g → w1.heap[b]? = w.heap[b]?) := Lib.hid (fun b hb hne => hg1.block b hb (fun e => by cases e; exact hne rfl)); have HB1 : Hid (Below B w w1) := Lib.hid (row_bel (w := w.drew) (g := g) (Below.refl B w).drew hB hg1 HBG.out); clear ho1 hg1)
      go_wp2_with (refine wp_clearC (k := 4) rfl _ 22 rfl _ i0 Try.underlying22 HI0.out HZ0.out rfl (by intro v hv; simp [Value.cells] at hv; rcases hv with rfl | rfl | rfl | rfl <;> rfl) (by decide) HO1.out (N * 4) (L.length - N) _ rfl (by have := HN.out; omega) (Nat.le_refl _) (by have := HN.out; omega) ?_; intro w2 ho2 hg2; have HO2 := Lib.hid ho2; have K2 : Hid (KpT 3 w1 w2) := Lib.hid (KpT.grown ne_int_vs HO1.out hg2); have G2 : Hid (∀ b, b < w.heap.size → b ≠ g → w2.heap[b]? = w.heap[b]?) := Lib.hid (fun b hb hne => (hg2.block b (Nat.lt_of_lt_of_le hb HB1.out.size) (fun e => by cases e; exact hne rfl)).trans (G1.out b hb hne)); have HB2 : Hid (Below B w w2) := Lib.hid (row_bel HB1.out (Nat.le_trans hB HB1.out.size) hg2 HBG.out); clear ho2 hg2)
      go_ret
      refine ⟨_, rfl, ⟨(HOK.out.take i).app (HOK.out.drop (i + 1)), ?_⟩, HB2.out, K1.out.trans K2.out, G2.out⟩
      rw [cellsVs_app, cellsVs_take, cellsVs_drop]
      have hlen2 : (L.take i ++ L.drop (i + 1)).length = N := by have := HN.out; simp; omega
      rw [hlen2]
      exact HO2.out
theorem OwnVs.one0 {x : Vs} (hx : x.ok) (w : World) : OwnVs w.heap.size [x] (.slice (some ⟨w.heap.size, 0, none⟩) 1 1) (w.alloc (.cells #[.int .i64 x.n, .int .i64 x.r, .int .i64 x.k, x.s] 33)) := OwnVs.one hx w
/-- The first version that begins at c. -/
def remK (L : List Vn) (c : Int) : Option Nat := L.findIdx? (fun x => x.n == c)
theorem remK_some {L : List Vn} {c : Int} {i : Nat} (h : remK L c = some i) : i < L.length ∧ (L.getD i Vn.z).n = c ∧ ∀ j, j < i → (L.getD j Vn.z).n ≠ c := by
  obtain ⟨hi, h1, h2⟩ := List.findIdx?_eq_some_iff_getElem.1 h
  refine ⟨hi, by simpa [List.getD, hi] using h1, fun j hj => ?_⟩
  have := h2 j hj
  simpa [List.getD, show j < L.length by omega] using this
theorem VmAt.rem {B : Nat} : ∀ {M : List Vs} {L : List Vn} {w : World}, VmAt B M L w → ∀ c : Int, firV (fun x => x.n == c) M = remK L c
  | [], [], _, _, _ => rfl
  | x :: M, y :: L, w, h, c => by
    unfold firV remK
    rw [List.findIdx?_cons, List.findIdx?_cons]
    have ih := h.2.rem c
    unfold firV remK at ih
    rw [ih, h.1.1]
  | [], y :: L, w, h, _ => h.elim
  | x :: M, [], w, h, _ => h.elim
def rmvE (L : List Vn) (c : Int) : Int := match remK L c with | some _ => 0 | none => 8
def rmvV (L : List Vn) (c : Int) : List Vn := match remK L c with | some i => L.take i ++ L.drop (i + 1) | none => []
def rmvX (L : List Vn) (c : Int) : Vn := match remK L c with | some i => L.getD i Vn.z | none => Vn.z
/-- What Remove answers: a chain, a version, an error. -/
def OutX (B : Nat) (L : List Vn) (c : Int) (w : World) (e : Ending) (w' : World) : Prop := ∃ v' M' s', e = .returned (.tuple #[v', .agg #[.int .i64 (rmvX L c).n, .int .i64 (rmvX L c).r, .int .i64 (rmvX L c).k, s'], .int .i64 (rmvE L c)]) ∧ OwnVs w.heap.size M' v' w' ∧ VmAt B M' (rmvV L c) w' ∧ OwnI B (rmvX L c).p s' w' ∧ Below w.heap.size w w'
theorem OutX.miss {B : Nat} {L : List Vn} {c : Int} {w w' : World} {e : Ending} (h : remK L c = none) (he : e = .returned (.tuple #[.slice none 0 0, .agg #[.int .i64 0, .int .i64 0, .int .i64 0, .slice none 0 0], .int .i64 8])) (hb : Below w.heap.size w w') : OutX B L c w e w' := by
  refine ⟨.slice none 0 0, [], .slice none 0 0, ?_, OwnVs.empty _ _, ?_, ?_, hb⟩
  · rw [he]; unfold rmvX rmvE; rw [h]; rfl
  · unfold rmvV; rw [h]; trivial
  · unfold rmvX; rw [h]; exact OwnI.empty _ _
theorem OutX.ok {B : Nat} {L : List Vn} {c : Int} {w w' : World} {e : Ending} {i : Nat} {v' s' : Value} {M' : List Vs} {x : Vn} (h : remK L c = some i) (hx : L.getD i Vn.z = x) (he : e = .returned (.tuple #[v', .agg #[.int .i64 x.n, .int .i64 x.r, .int .i64 x.k, s'], .int .i64 0])) (ho : OwnVs w.heap.size M' v' w') (hm : VmAt B M' (L.take i ++ L.drop (i + 1)) w') (hs : OwnI B x.p s' w') (hb : Below w.heap.size w w') : OutX B L c w e w' := by
  refine ⟨v', M', s', ?_, ho, ?_, ?_, hb⟩
  · rw [he]; unfold rmvX rmvE; rw [h, ← hx]
  · unfold rmvV; rw [h]; exact hm
  · unfold rmvX; rw [h, ← hx] at *; exact hs
set_option maxRecDepth 100000 in
set_option maxHeartbeats 1000000 in
theorem crem1_any (c : Int) (x : Vs) (gf : Nat) (w : World) (h1 : w.cell? ⟨gf, 0, none⟩ = some (.int .i64 c)) (hx : x.ok) :
    Calls Try.prog 31 #[.agg #[.int .i64 x.n, .int .i64 x.r, .int .i64 x.k, x.s], .pointer (some ⟨gf, 0, none⟩)] w fun e w' => e = .returned (.bool (x.n == c)) ∧ Below w.heap.size w w' := by
  obtain ⟨n, r, k, s⟩ := x
  obtain ⟨-, -, -, sa, sn, sc, hs⟩ := hx
  have hs : s = .slice sa sn sc := hs
  subst hs
  have hlt1 := World.block_lt_of_cell? w _ h1
  simp only at hlt1
  show Calls _ _ #[.agg #[.int .i64 n, .int .i64 r, .int .i64 k, .slice sa sn sc], _] _ fun e w' => e = .returned (.bool (n == c)) ∧ _
  go_enter Try.func31, Try.ntmps31
  go_wp2
  go_ret
  exact ⟨rfl, b1 _⟩
theorem enters_crem1 : ∀ args w, (callFunc 31 args).run Try.prog w = .ok (.enter 31 args) w := Go.Proofs.enters_of Try.func31 (by kernel_rfl) rfl
end Go.Proofs.Ytakickggpfbafaa
