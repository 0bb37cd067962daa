/- slices.Insert of one binding into bindings of the call's own. -/
import Derived.Test.YtpehbfghajlgmaaGreatBgR
import Derived.Test.YtpehbfghajlgmaaGreatSlC
import Derived.Deep.CutBlock
import Derived.Deep.CutRange
namespace Go.Proofs.YtpehbfghajlgmaaGreat
open Go.RowKit
set_option linter.unusedVariables false
set_option linter.unusedSimpArgs false
theorem info_bg4 : (Tryz.prog.info? 27).map (·.size) = some 4 := by
  obtain ⟨i0, hi, hz0, hz1, hz2⟩ := info_parts info_bg
  rw [hi]; simp [hz1]
theorem cellsBg_drop : ∀ (L : List Bg) (i : Nat), cellsBg (L.drop i) = (cellsBg L).drop (i * 4)
  | [], i => by simp [cellsBg]
  | x :: L, 0 => by simp
  | x :: L, i + 1 => by
    rw [List.drop_succ_cons, cellsBg_drop L i, cellsBg, show (i + 1) * 4 = 4 + i * 4 by omega, Bg.cs]
    simp [Nat.add_comm 4]
/-- Insertion at the end. -/
theorem insBg_end (L : List Bg) (x : Bg) (B vb : Nat) (v : Value) (w : World) (ho : OwnBg B L v w) (hu : OwnBg 0 [x] (.slice (some ⟨vb, 0, none⟩) 1 1) w) (hB : B ≤ w.heap.size) (hL : L.length ≤ 1000000) :
    Calls Tryz.prog 58 #[v, .int .i64 (L.length : Int), .slice (some ⟨vb, 0, none⟩) 1 1] w fun e w' => ∃ v', e = .returned v' ∧ OwnBg B (L ++ [x]) v' w' ∧ Below B w w' := by
  obtain ⟨a, cap, rfl⟩ := ho.rd.shape
  have HO := Lib.hid ho
  have HS := Lib.hid hu.rd.src
  have hc : L.length ≤ cap ∧ cap ≤ 9223372036854775807 := by
    obtain ⟨_, a', c', he, h1, h2, _⟩ := ho.rd
    simp only [Value.slice.injEq] at he
    obtain ⟨-, -, rfl⟩ := he
    unfold maxLen at h2
    omega
  have hc1 := hc.1
  have hc2 := hc.2
  have hca : a = none → cap = 0 := fun ha => by
    subst ha
    rcases ho.2.2 with ⟨h, _⟩ | ⟨g, c, cur, h, _⟩
    · simp only [Value.slice.injEq] at h; exact h.2.2
    · cases h
  have hca2 : ∀ ad, a = some ad → ad.spot = none ∧ ad.off = 0 := fun ad ha => by
    subst ha
    rcases ho.2.2 with ⟨h, _⟩ | ⟨g, c, cur, h, _⟩
    · cases h
    · simp only [Value.slice.injEq, Option.some.injEq] at h; rw [h.1]; exact ⟨rfl, rfl⟩
  clear ho hu hc
  cases a with
  | none =>
    obtain rfl := hca rfl
    clear hca hca2
    go_enter Tryz.func58, Tryz.ntmps58
    go_wp2_with (at_builtin; refine wp_appBg rfl _ _ _ rfl B L [x] _ _ rfl rfl HO.out HS.out hB (by simp; omega) ?_; intro v' w' ho hb; have HO' := Lib.hid ho; have HB' := Lib.hid hb; clear ho hb)
    all_goals (go_ret; exact ⟨_, rfl, HO'.out, HB'.out⟩)
  | some ad =>
    obtain ⟨hs, h0⟩ := hca2 _ rfl
    obtain ⟨g, o, sp⟩ := ad
    simp only at hs h0
    subst hs h0
    clear hca hca2
    go_enter Tryz.func58, Tryz.ntmps58
    go_wp2_with (at_builtin; refine wp_appBg rfl _ _ _ rfl B L [x] _ _ rfl rfl HO.out HS.out hB (by simp; omega) ?_; intro v' w' ho hb; have HO' := Lib.hid ho; have HB' := Lib.hid hb; clear ho hb)
    all_goals (go_ret; exact ⟨_, rfl, HO'.out, HB'.out⟩)
/-- What stands after both copies, in place. -/
theorem ins_cells (cs js : List Value) (x0 x1 x2 x3 : Value) (i n : Nat) (hi : i < n) (hl : cs.length = n * 4) (hj : js.length = 4) :
    splice (splice (cs ++ js) ((i + 1) * 4) (cs.drop (i * 4))) (i * 4) [x0, x1, x2, x3] = cs.take (i * 4) ++ [x0, x1, x2, x3] ++ cs.drop (i * 4) := by
  have h1 : (cs.drop (i * 4)).length = n * 4 - i * 4 := by rw [List.length_drop, hl]
  have e1 : (cs ++ js).drop ((i + 1) * 4 + (cs.drop (i * 4)).length) = [] := List.drop_eq_nil_of_le (by rw [List.length_append, h1, hl, hj]; omega)
  have e2 : (cs ++ js).take ((i + 1) * 4) = cs.take ((i + 1) * 4) := List.take_append_of_le_length (by rw [hl]; omega)
  have e3 : (cs.take ((i + 1) * 4)).length = (i + 1) * 4 := by rw [List.length_take, hl]; omega
  unfold splice
  rw [e1, e2, List.append_nil, List.append_assoc]
  congr 1
  · rw [List.take_append_of_le_length (by rw [e3]; omega), List.take_take]
    congr 1
    omega
  · congr 1
    rw [show i * 4 + [x0, x1, x2, x3].length = (cs.take ((i + 1) * 4)).length by rw [e3]; simp; omega, List.drop_left]
/-- .. and in a new row. -/
theorem ins_cells2 (cs zs : List Value) (x0 x1 x2 x3 : Value) (i n : Nat) (hi : i < n) (hl : cs.length = n * 4) (hz : zs.length = (n + 1 - i) * 4) :
    splice (splice (cs.take (i * 4) ++ zs) (i * 4) [x0, x1, x2, x3]) ((i + 1) * 4) (cs.drop (i * 4)) = cs.take (i * 4) ++ [x0, x1, x2, x3] ++ cs.drop (i * 4) := by
  have h0 : (cs.take (i * 4)).length = i * 4 := by rw [List.length_take, hl]; omega
  have h1 : (cs.drop (i * 4)).length = n * 4 - i * 4 := by rw [List.length_drop, hl]
  have e0 : (cs.take (i * 4) ++ zs).take (i * 4) = cs.take (i * 4) := by rw [List.take_append_of_le_length (by omega), List.take_of_length_le (by omega)]
  unfold splice
  rw [e0]
  have e1 : (cs.take (i * 4) ++ ([x0, x1, x2, x3] ++ List.drop (i * 4 + [x0, x1, x2, x3].length) (cs.take (i * 4) ++ zs))).take ((i + 1) * 4) = cs.take (i * 4) ++ [x0, x1, x2, x3] := by
    rw [← List.append_assoc, List.take_append_of_le_length (by rw [List.length_append, h0]; simp; omega), List.take_of_length_le (by rw [List.length_append, h0]; simp; omega)]
  have e2 : (cs.take (i * 4) ++ ([x0, x1, x2, x3] ++ List.drop (i * 4 + [x0, x1, x2, x3].length) (cs.take (i * 4) ++ zs))).drop ((i + 1) * 4 + (cs.drop (i * 4)).length) = [] := List.drop_eq_nil_of_le (by
    simp only [List.length_append, List.length_drop, h0, h1, hz, List.length_cons, List.length_nil]
    omega)
  rw [e1, e2, List.append_nil]
theorem OwnBg.monoR {w : World} {B B' : Nat} {e : TypeId} {k n : Nat} {v : Value} {cs : List Value} (h : w.ownsRow B e k v n cs) (hB : B' ≤ B) : w.ownsRow B' e k v n cs := by
  obtain ⟨h1, h2⟩ := h
  refine ⟨h1, ?_⟩
  rcases h2 with h2 | ⟨g, cap, cur, rfl, hb, r⟩
  · exact .inl h2
  · exact .inr ⟨g, cap, cur, rfl, Nat.le_trans hB hb, r⟩
theorem BgOk.drop {L : List Bg} (h : BgOk L) (i : Nat) : BgOk (L.drop i) := fun n hn => h n (List.mem_of_mem_drop hn)
set_option maxRecDepth 100000 in
set_option maxHeartbeats 4000000 in
theorem insBg_shift (L : List Bg) (x : Bg) (B g vb i c : Nat) (w : World) (ho : OwnBg B L (.slice (some ⟨g, 0, none⟩) L.length c) w) (hu : OwnBg 0 [x] (.slice (some ⟨vb, 0, none⟩) 1 1) w) (hne : vb ≠ g) (hi : i < L.length) (hroom : L.length + 1 ≤ c) (hB : B ≤ w.heap.size) (hL : L.length ≤ 1000000) :
    Calls Tryz.prog 58 #[.slice (some ⟨g, 0, none⟩) L.length c, .int .i64 (i : Int), .slice (some ⟨vb, 0, none⟩) 1 1] w fun e w' => ∃ v', e = .returned v' ∧ OwnBg B (L.take i ++ [x] ++ L.drop i) v' w' ∧ Below B w w' := by
  obtain ⟨i0, hi0, hz0, hz1, hz2⟩ := info_parts info_bg
  obtain ⟨js, hj, hlong⟩ := row_longer ho.2 (m := 1) hroom
  obtain ⟨-, hg⟩ := And.intro trivial (row_block ho.2)
  obtain ⟨cur, -, hBg, -, hc63, -, -, hlen⟩ := hg
  have hov : ∀ n cs lb cb, w.ownsRow B 27 4 (.slice (some ⟨g, 0, none⟩) n c) n cs → (callFunc 69 #[.slice (some ⟨vb, 0, none⟩) 1 1, .slice (some ⟨g, (i + 1) * 4, none⟩) lb cb]).run Tryz.prog w = .ok (.value (.bool false)) w := fun n cs lb cb hr => by
    rw [run_callFunc_extern Tryz.func69 (by kernel_rfl) (by kernel_rfl) (by kernel_rfl) (e := Extern.SlicesOverlaps.overlaps #[22, 22] #[4]) (by kernel_rfl),
      run_overlapsC 22 4 Tryz.underlying22 (fun w => by simp [Go.sizeOf, typeInfo, hi0, hz1]) (by decide) hu.2 hr hne (by omega) _ _ _]
    rfl
  have hov2 := fun lb cb => hov _ _ lb cb hlong
  have HU := Lib.hid hu
  have HLO : Hid (w.drew.ownsRow B 27 4 (.slice (some ⟨g, 0, none⟩) (L.length + 1) c) (L.length + 1) (cellsBg L ++ js)) := Lib.hid hlong
  have HCD : Hid (((cellsBg L).drop (i * 4)).length = (L.length - i) * 4) := Lib.hid (by rw [List.length_drop, hlen]; omega)
  have HSC : Hid (∀ j v, ((cellsBg L).drop (i * 4))[j]? = some v → w.cell? ⟨g, i * 4 + j, none⟩ = some v) := Lib.hid (fun j v h => row_cell ho.2 (by rwa [List.getElem?_drop] at h))
  have HIN := Lib.hid (ins_cells (cellsBg L) js (.string x.n) (.int .i64 x.r) (.int .i64 x.k) (.int .i64 x.s) i L.length hi hlen (by rw [hj]))
  have HOK := Lib.hid ho.1
  have HX := Lib.hid (hu.1 x (by simp))
  have HLE := Lib.hid hlen
  have HJ := Lib.hid hj
  have hb0 : Below B w w := Below.refl _ _
  unfold maxLen at hc63
  have HBG := Lib.hid hBg
  have hz1 : ¬ ((i : Int) = (L.length : Int)) := by omega
  have hz3 : ¬ ((c : Int) < (L.length : Int) + 1) := by omega
  have hiL : (i : Int) ≤ (L.length : Int) := by omega
  have hb1 : (0 : Int) ≤ (i : Int) + 1 := by omega
  have hb2 : ¬ (c = i) := by omega
  have hb3 : ¬ (c = i + 1) := by omega
  have hb4 : (i : Int) ≤ (L.length : Int) + 1 := by omega
  have hb5 : (i : Int) + 1 ≤ (L.length : Int) + 1 := by omega
  have hb6 : (L.length : Int) + 1 ≤ (c : Int) := by omega
  have hw1 : IntKind.i64.wrap ((i : Int) + 1) = (i : Int) + 1 := by rw [IntKind.wrap_i64]; omega
  have hw2 : IntKind.i64.wrap ((L.length : Int) + 1) = (L.length : Int) + 1 := by rw [IntKind.wrap_i64]; omega
  clear ho hu hov hlong hlen hBg hj hz0 hz2 hi0
  go_enter Tryz.func58, Tryz.ntmps58
  go_wp2_with (simp only [hov2])
  go_region_law (refine step_copyC rfl _ _ 22 22 rfl Tryz.underlying22 info_bg4 HLO.out ((i+1)*4) (L.length-i) (c-(i+1)) ⟨g, i*4, none⟩ (L.length+1-i) (c-i) (by simp [Act.eval, Act.put]) (by simp [Act.eval, Act.put]) ((cellsBg L).drop (i*4)) (by rw [HCD.out]; congr 1; omega) (fun j v h => by rw [Addr.add_lit]; exact HSC.out j v h) (by rw [HCD.out]; omega) (fun v h => oneCell_bg L HOK.out v (List.mem_of_mem_drop h)) ?_; intro w1 ho1 hg1; have HO1 := Lib.hid ho1; have HG1 := Lib.hid hg1; clear ho1 hg1)
  have HU1 : Hid (OwnBg 0 [x] (.slice (some ⟨vb, 0, none⟩) 1 1) w1) := Lib.hid ⟨HU.out.1, row_kept (w := w.drew) HU.out.2 HG1.out hne⟩
  have HB1 : Hid (Below B w w1) := Lib.hid (row_bel (w := w.drew) (g := g) (Below.refl B w).drew hB HG1.out HBG.out)
  go_wp2_with (refine wp_copyC rfl _ _ 22 22 rfl Tryz.underlying22 info_bg4 HO1.out (i*4) _ _ ⟨vb, 0, none⟩ 1 1 rfl rfl [.string x.n, .int .i64 x.r, .int .i64 x.k, .int .i64 x.s] (by have h : min 1 (L.length + 1 - i) = 1 := (by omega); rw [h]; rfl) (fun j v h => by rw [Addr.add_lit, Nat.zero_add]; exact row_cell HU1.out.2 h) (by simp only [List.length_cons, List.length_nil]; omega) (fun v h => by simp only [List.mem_cons, List.mem_nil_iff, or_false] at h; rcases h with rfl | rfl | rfl | rfl <;> rfl) ?_; intro w2 ho2 hg2; have HO2 := Lib.hid ho2; have HG2 := Lib.hid hg2; clear ho2 hg2)
  go_ret
  have hfin := HO2.out
  rw [HIN.out] at hfin
  refine ⟨_, rfl, ⟨(HOK.out.take i).app (BgOk.one HX.out) |>.app (HOK.out.drop i), ?_⟩, row_bel HB1.out (Nat.le_trans hB HB1.out.size) HG2.out HBG.out⟩
  rw [cellsBg_app, cellsBg_app, cellsBg_take, cellsBg_drop]
  have hlen2 : (L.take i ++ [x] ++ L.drop i).length = L.length + 1 := by simp; omega
  rw [hlen2]
  exact hfin
set_option maxRecDepth 100000 in
set_option maxHeartbeats 4000000 in
theorem insBg_grow (L : List Bg) (x : Bg) (B g vb i c : Nat) (w : World) (ho : OwnBg B L (.slice (some ⟨g, 0, none⟩) L.length c) w) (hu : OwnBg 0 [x] (.slice (some ⟨vb, 0, none⟩) 1 1) w) (hi : i < L.length) (hnc : L.length ≤ c) (hroom : c < L.length + 1) (hB : B ≤ w.heap.size) (hL : L.length ≤ 1000000) :
    Calls Tryz.prog 58 #[.slice (some ⟨g, 0, none⟩) L.length c, .int .i64 (i : Int), .slice (some ⟨vb, 0, none⟩) 1 1] w fun e w' => ∃ v', e = .returned v' ∧ OwnBg B (L.take i ++ [x] ++ L.drop i) v' w' ∧ Below B w w' := by
  obtain ⟨i0, hi0, hz0, hz1, hz2⟩ := info_parts info_bg
  have hlen : (cellsBg L).length = L.length * 4 := cellsBg_len L
  have hglt := (World.ownsRow.lt ho.2 g rfl).2
  have hvlt := (World.ownsRow.lt hu.2 vb rfl).2
  have HGL : Hid (g < w.heap.size) := Lib.hid hglt
  have HVL : Hid (vb < w.heap.size) := Lib.hid hvlt
  have HU := Lib.hid hu
  have HO := Lib.hid ho.2
  have HCU := Lib.hid (row_cut ho.2 (Nat.le_of_lt hi))
  have HOK := Lib.hid ho.1
  have HX := Lib.hid (hu.1 x (by simp))
  have HLE := Lib.hid hlen
  have HCD : Hid (((cellsBg L).drop (i * 4)).length = (L.length - i) * 4) := Lib.hid (by rw [List.length_drop, hlen]; omega)
  have HIN := Lib.hid (fun zs hz => ins_cells2 (cellsBg L) zs (.string x.n) (.int .i64 x.r) (.int .i64 x.k) (.int .i64 x.s) i L.length hi hlen hz)
  have hy1 : ¬ ((i : Int) = (L.length : Int)) := by omega
  have hy3 : (c : Int) < (L.length : Int) + 1 := by omega
  have hiL : (i : Int) ≤ (L.length : Int) := by omega
  have hb1 : (0 : Int) ≤ (i : Int) + 1 := by omega
  have hb2 : ¬ (c = i) := by omega
  have hb4 : (i : Int) ≤ (L.length : Int) + 1 := by omega
  have hb5 : (i : Int) + 1 ≤ (L.length : Int) + 1 := by omega
  have hw1 : IntKind.i64.wrap ((i : Int) + 1) = (i : Int) + 1 := by rw [IntKind.wrap_i64]; omega
  have hw2 : IntKind.i64.wrap ((L.length : Int) + 1) = (L.length : Int) + 1 := by rw [IntKind.wrap_i64]; omega
  have hw3 : IntKind.i64.wrap ((L.length : Int) + 1 - (i : Int)) = (L.length : Int) + 1 - (i : Int) := by rw [IntKind.wrap_i64]; omega
  have hxz : (L.length : Int) + 1 - (i : Int) = ((L.length + 1 - i : Nat) : Int) := by omega
  have HXZ := Lib.hid hxz
  have HI0 := Lib.hid hi0
  have HZ0 := Lib.hid hz0
  have HZ1 := Lib.hid hz1
  have HZ2 := Lib.hid hz2
  clear ho hu hlen hglt hvlt hxz hi0 hz0 hz1 hz2
  go_enter Tryz.func58, Tryz.ntmps58
  go_wp2_with (first
    | (at_builtin; refine wp_zerosC rfl _ _ 22 3 rfl i0 _ .i64 .i64 Tryz.underlying22 Tryz.underlying3 HI0.out HZ0.out HZ1.out rfl (by decide) HCU.out (L.length + 1 - i) rfl (congrArg (Value.int .i64) HXZ.out) (by omega) (by omega) (by rw [HZ2.out]; omega) (by omega) ?_; intro w1 G zs hz ho1 hg1; have HZL := Lib.hid hz; rw [show i + (L.length + 1 - i) = L.length + 1 by omega] at ho1 ⊢; have HO1 := Lib.hid ho1; have HG1 := Lib.hid hg1; have hG := row_block ho1; obtain ⟨-, -, -, hGn, hGm, -, -, -⟩ := hG; unfold maxLen at hGm; have hg1 : ¬ (G = i) := (by omega); have hg2 : ¬ (G = i + 1) := (by omega); have HU1 : Hid (OwnBg 0 [x] (.slice (some ⟨vb, 0, none⟩) 1 1) w1) := Lib.hid ⟨HU.out.1, World.ownsRow.kept HU.out.2 HG1.out (.inr (by simp [Value.ownBlock]))⟩; have HS1 : Hid (w1.ownsRow B 27 4 (.slice (some ⟨g, 0, none⟩) L.length c) L.length (cellsBg L)) := Lib.hid (World.ownsRow.kept HO.out HG1.out (.inr (by simp [Value.ownBlock]))); have HB1 : Hid (Below B w w1) := Lib.hid (row_bel0 (Below.refl B w) hB HG1.out); clear ho1 hz)
    | (refine wp_copyC rfl _ _ 22 22 rfl Tryz.underlying22 info_bg4 HO1.out (i*4) _ _ ⟨vb, 0, none⟩ 1 1 rfl rfl [.string x.n, .int .i64 x.r, .int .i64 x.k, .int .i64 x.s] (by have h : min 1 (L.length + 1 - i) = 1 := (by omega); rw [h]; rfl) (fun j v h => by rw [Addr.add_lit, Nat.zero_add]; exact row_cell HU1.out.2 h) (by simp only [List.length_cons, List.length_nil]; omega) (fun v h => by simp only [List.mem_cons, List.mem_nil_iff, or_false] at h; rcases h with rfl | rfl | rfl | rfl <;> rfl) ?_; intro w2 ho2 hg2; have HO2 : Hid (w2.drew.ownsRow w.heap.size 27 4 (.slice (some ⟨w.heap.size, 0, none⟩) (L.length + 1) G) (L.length + 1) (splice ((cellsBg L).take (i * 4) ++ zs) (i * 4) [.string x.n, .int .i64 x.r, .int .i64 x.k, .int .i64 x.s])) := Lib.hid ho2; have HB2 : Hid (Below B w w2) := Lib.hid (row_bel HB1.out (Nat.le_trans hB HB1.out.size) hg2 hB); have HS2 : Hid (w2.ownsRow B 27 4 (.slice (some ⟨g, 0, none⟩) L.length c) L.length (cellsBg L)) := Lib.hid (row_kept HS1.out hg2 (Nat.ne_of_lt HGL.out)); have HSC : Hid (∀ j v, ((cellsBg L).drop (i * 4))[j]? = some v → w2.cell? ⟨g, i * 4 + j, none⟩ = some v) := Lib.hid (fun j v h => row_cell HS2.out (by rwa [List.getElem?_drop] at h)); clear ho2 hg2))
  go_region_law (refine step_copyC rfl _ _ 22 22 rfl Tryz.underlying22 info_bg4 HO2.out ((i+1)*4) (L.length-i) (G-(i+1)) ⟨g, i*4, none⟩ (L.length-i) (c-i) (by simp [Act.eval, Act.put]) (by simp [Act.eval, Act.put]) ((cellsBg L).drop (i*4)) (by rw [HCD.out, Nat.min_self]) (fun j v h => by rw [Addr.add_lit]; exact HSC.out j v h) (by rw [HCD.out]; omega) (fun v h => oneCell_bg L HOK.out v (List.mem_of_mem_drop h)) ?_; intro w3 ho3 hg3; have HO3 := Lib.hid ho3; have HB3 : Hid (Below B w w3) := Lib.hid (row_bel (w := w2.drew) HB2.out.drew (Nat.le_trans hB HB2.out.size) hg3 hB); clear ho3 hg3)
  go_wp2
  go_ret
  have hfin := HO3.out
  rw [HIN.out _ HZL.out] at hfin
  refine ⟨_, rfl, ⟨(HOK.out.take i).app (BgOk.one HX.out) |>.app (HOK.out.drop i), ?_⟩, HB3.out⟩
  rw [cellsBg_app, cellsBg_app, cellsBg_take, cellsBg_drop]
  have hlen2 : (L.take i ++ [x] ++ L.drop i).length = L.length + 1 := by simp; omega
  rw [hlen2]
  exact OwnBg.monoR hfin hB
theorem insBg_any (L : List Bg) (x : Bg) (B vb i : Nat) (v : Value) (w : World) (ho : OwnBg B L v w) (hu : OwnBg 0 [x] (.slice (some ⟨vb, 0, none⟩) 1 1) w) (hne : v.ownBlock ≠ some vb) (hi : i ≤ L.length) (hB : B ≤ w.heap.size) (hL : L.length ≤ 1000000) :
    Calls Tryz.prog 58 #[v, .int .i64 (i : Int), .slice (some ⟨vb, 0, none⟩) 1 1] w fun e w' => ∃ v', e = .returned v' ∧ OwnBg B (L.take i ++ [x] ++ L.drop i) v' w' ∧ Below B w w' := by
  by_cases he : i = L.length
  · subst he
    have h := insBg_end L x B vb v w ho hu hB hL
    rw [List.take_length, List.drop_length, List.append_nil]
    exact h
  · have h := ho.2.2
    rcases h with ⟨rfl, hn⟩ | ⟨g, c, cur, rfl, hb, hg, h1, h2, h3, h4⟩
    · omega
    · by_cases hr : L.length + 1 ≤ c
      · exact insBg_shift L x B g vb i c w ho hu (fun e => hne (by simp [Value.ownBlock, e])) (by omega) hr hB hL
      · exact insBg_grow L x B g vb i c w ho hu (by omega) h1 (by omega) hB hL
end Go.Proofs.YtpehbfghajlgmaaGreat
