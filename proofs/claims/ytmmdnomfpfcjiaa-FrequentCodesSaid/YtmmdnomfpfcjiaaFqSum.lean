/- The contract of frequent's sum of two summaries. -/
import Derived.Test.YtmmdnomfpfcjiaaFqU
import Derived.Test.YtmmdnomfpfcjiaaFqC
namespace Go.Proofs.Ytmmdnomfpfcjiaa
open Go.RowKit
set_option linter.unusedVariables false
set_option linter.unusedSimpArgs false
def NnE (L : List Ent) : Prop := ∀ x ∈ L, 0 ≤ x.c
theorem unL_nn : ∀ {L M : List Ent}, NnE L → NnE M → NnE (unL L M)
  | [], M, _, hm => by rw [unL_nil_left]; exact hm
  | x :: L, [], hl, _ => by rw [unL_nil_right]; exact hl
  | x :: L, y :: M, hl, hm => by
    have hl' : NnE L := fun z hz => hl z (by simp [hz])
    have hm' : NnE M := fun z hz => hm z (by simp [hz])
    rw [unL_cons]
    split
    · intro z hz
      rcases List.mem_cons.1 hz with rfl | hz
      · exact hl z (by simp)
      · exact unL_nn hl' hm z hz
    · split
      · intro z hz
        rcases List.mem_cons.1 hz with rfl | hz
        · exact hm z (by simp)
        · exact unL_nn hl hm' z hz
      · intro z hz
        rcases List.mem_cons.1 hz with rfl | hz
        · exact (tS_bd x.c y.c).1
        · exact unL_nn hl' hm' z hz
termination_by L M => L.length + M.length
theorem srpl_mem {L : List Ent} {S : Int} (h : ¬ (L.length : Int) ≤ S) (h0 : 0 ≤ S) : ∃ x ∈ L, srpl L S = x.c := by
  unfold srpl
  rw [if_neg h]
  have hl : L.length - 1 - S.toNat < (sortI (cnts L)).length := by rw [sortI_len, cnts_len]; omega
  have hm : (sortI (cnts L)).getD (L.length - 1 - S.toNat) 0 ∈ sortI (cnts L) := by
    rw [List.getD_eq_getElem?_getD, List.getElem?_eq_getElem hl]
    exact List.getElem_mem hl
  have := (sortI_perm (cnts L)).mem_iff.1 hm
  obtain ⟨x, hx, he⟩ := List.mem_map.1 this
  exact ⟨x, hx, he.symm⟩
theorem srpl_nn {L : List Ent} {S : Int} (h : NnE L) (h0 : 0 ≤ S) : 0 ≤ srpl L S := by
  by_cases hs : (L.length : Int) ≤ S
  · unfold srpl; rw [if_pos hs]; exact Int.le_refl _
  · obtain ⟨x, hx, he⟩ := srpl_mem hs h0
    rw [he]
    exact h x hx
theorem srpl_ok {L : List Ent} {S : Int} (h : EOk L) (h0 : 0 ≤ S) : -9223372036854775808 ≤ srpl L S ∧ srpl L S ≤ 9223372036854775807 := by
  by_cases hs : (L.length : Int) ≤ S
  · unfold srpl; rw [if_pos hs]; decide
  · obtain ⟨x, hx, he⟩ := srpl_mem hs h0
    rw [he]
    exact (h x hx).2.1
/-- Three structs in memory: two summaries, and an empty one. -/
def SM (W : World) (a : FQ) (v : Value) (b : FQ) (u : Value) (w : World) : Prop :=
  FqS W.heap.size a.S a.T a.K v a.s w ∧ FqS (W.heap.size + 1) b.S b.T b.K u b.s w ∧ FqS (W.heap.size + 2) 0 0 0 (.slice none 0 0) false w ∧ Below W.heap.size W w
section
variable {W w w' : World} {a b : FQ} {v u : Value}
theorem SM.lt (h : SM W a v b u w) : W.heap.size + 2 < w.heap.size := h.2.2.1.lt
theorem SM.keep (h : SM W a v b u w) (hb : Below (W.heap.size + 3) w w') : SM W a v b u w' :=
  ⟨h.1.keep (hb.block _ (by omega)), h.2.1.keep (hb.block _ (by omega)), h.2.2.1.keep (hb.block _ (by omega)), h.2.2.2.trans (hb.mono (by omega))⟩
theorem SM.go (h : SM W a v b u w) (hb : Below w.heap.size w w') : SM W a v b u w' := h.keep (hb.mono (by have := h.lt; omega))
theorem SM.new (W : World) (a : FQ) (v : Value) (b : FQ) (u : Value) :
    SM W a v b u (((W.alloc (.cells #[.int .i64 a.S, .int .i64 a.T, .int .i64 a.K, v, .bool a.s] 25)).alloc (.cells #[.int .i64 b.S, .int .i64 b.T, .int .i64 b.K, u, .bool b.s] 25)).alloc (.cells #[.int .i64 0, .int .i64 0, .int .i64 0, .slice none 0 0, .bool false] 25)) := by
  have h1 := (FqS.new a.S a.T a.K v a.s 25 W).go (b2 (.cells #[.int .i64 b.S, .int .i64 b.T, .int .i64 b.K, u, .bool b.s] 25) (.cells #[.int .i64 0, .int .i64 0, .int .i64 0, .slice none 0 0, .bool false] 25))
  refine ⟨h1, ?_, ?_, b3 _ _ _⟩
  · exact ⟨⟨by go_simp, by go_simp, by go_simp, by go_simp, by go_simp⟩, by go_simp, by go_simp, by go_simp, by go_simp, by go_simp⟩
  · exact ⟨⟨by go_simp, by go_simp, by go_simp, by go_simp, by go_simp⟩, by go_simp, by go_simp, by go_simp, by go_simp, by go_simp⟩
theorem SM.cells (h : SM W a v b u w) :
    (w.cell? ⟨W.heap.size, 0, none⟩ = some (.int .i64 a.S) ∧ w.cell? ⟨W.heap.size, 1, none⟩ = some (.int .i64 a.T) ∧ w.cell? ⟨W.heap.size, 2, none⟩ = some (.int .i64 a.K) ∧ w.cell? ⟨W.heap.size, 3, none⟩ = some v ∧ w.cell? ⟨W.heap.size, 4, none⟩ = some (.bool a.s)) ∧
    (w.cell? ⟨W.heap.size + 1, 0, none⟩ = some (.int .i64 b.S) ∧ w.cell? ⟨W.heap.size + 1, 1, none⟩ = some (.int .i64 b.T) ∧ w.cell? ⟨W.heap.size + 1, 2, none⟩ = some (.int .i64 b.K) ∧ w.cell? ⟨W.heap.size + 1, 3, none⟩ = some u ∧ w.cell? ⟨W.heap.size + 1, 4, none⟩ = some (.bool b.s)) ∧
    (w.cell? ⟨W.heap.size + 2, 0, none⟩ = some (.int .i64 0) ∧ w.cell? ⟨W.heap.size + 2, 1, none⟩ = some (.int .i64 0) ∧ w.cell? ⟨W.heap.size + 2, 2, none⟩ = some (.int .i64 0) ∧ w.cell? ⟨W.heap.size + 2, 3, none⟩ = some (.slice none 0 0) ∧ w.cell? ⟨W.heap.size + 2, 4, none⟩ = some (.bool false)) ∧
    (w.frozen? ⟨W.heap.size + 2, 0, none⟩ = false ∧ w.frozen? ⟨W.heap.size + 2, 1, none⟩ = false ∧ w.frozen? ⟨W.heap.size + 2, 2, none⟩ = false ∧ w.frozen? ⟨W.heap.size + 2, 3, none⟩ = false ∧ w.frozen? ⟨W.heap.size + 2, 4, none⟩ = false) :=
  ⟨h.1.1, h.2.1.1, h.2.2.1.1, h.2.2.1.2⟩
/-- .. and the flag in block g, and entries of the call's own. -/
def SX (W : World) (a : FQ) (v : Value) (b : FQ) (u : Value) (g B : Nat) (q : Bool) (O : List Ent) (o : Value) (w : World) : Prop :=
  SM W a v b u w ∧ Fl g q w ∧ OwnE B O o w ∧ W.heap.size + 3 ≤ g ∧ g < B
variable {g B : Nat} {q r : Bool} {O : List Ent} {o : Value}
theorem SX.go (h : SX W a v b u g B q O o w) (hb : Below w.heap.size w w') : SX W a v b u g B q O o w' := ⟨h.1.go hb, h.2.1.bd hb, h.2.2.1.below hb, h.2.2.2⟩
theorem SX.one (h : SX W a v b u g B q O o w) (ho : One g w w') (hf : Fl g r w') : SX W a v b u g B r O o w' :=
  ⟨h.1.keep (ho.1.mono h.2.2.2.1), hf, h.2.2.1.firm ho h.2.2.2.2, h.2.2.2⟩
theorem SX.lt (h : SX W a v b u g B q O o w) : g < w.heap.size := h.2.1.lt
theorem SX.mk {Z : World} (h : SM W a v b u Z ∧ Fl g r Z ∧ W.heap.size + 3 ≤ g ∧ g < Z.heap.size) (ho : OwnE Z.heap.size O o w) (hf : Fl g q w) (h1 : One g Z w) : SX W a v b u g Z.heap.size q O o w :=
  ⟨h.1.keep (h1.1.mono h.2.2.1), hf, ho, h.2.2.1, h.2.2.2⟩
theorem SX.fl (h : SX W a v b u g B q O o w) : Fl g q w := h.2.1
theorem SX.own (h : SX W a v b u g B q O o w) : OwnE B O o w := h.2.2.1
end
set_option maxRecDepth 100000 in
set_option maxHeartbeats 4000000 in
theorem sumQ_any (a b : FQ) (va vb : Value) (w : World) (ha : RdQ a va w) (hb : RdQ b vb w) (hn : a.L.length + b.L.length ≤ 12) (wa : WfQ a) (wb : WfQ b) (S0 : 0 ≤ a.S) (na : NnE a.L) (nb : NnE b.L) :
    Calls Try.prog 28 #[va, vb] w fun e w' => ∃ u, e = .returned u ∧ OwnQ w.heap.size (sumQ a b) u w' ∧ Below w.heap.size w w' := by
  obtain ⟨S, T, K, L, s⟩ := a
  obtain ⟨S', T', K', M, s'⟩ := b
  obtain ⟨aA, nA, cA, rfl, hr⟩ := ha
  obtain ⟨aB, nB, cB, rfl, hr2⟩ := hb
  dsimp only at hr hr2 hn S0 na nb
  have hU := unL_ok hr.1 hr2.1
  have hUl := unL_len L M
  have hUn := unL_nn na nb
  have hd0 := srpl_nn hUn S0
  have hd1 := srpl_ok hU S0
  have htk := tS_bd K K'
  unfold sumQ
  have HR := Lib.hid hr
  have HR2 := Lib.hid hr2
  have M0 := Lib.hid (SM.new w ⟨S, T, K, L, s⟩ (.slice aA nA cA) ⟨S', T', K', M, s'⟩ (.slice aB nB cB))
  have HUN := Lib.hid (fun (g : Nat) (r : Bool) (w0 : World) (h : Below w.heap.size w w0) (hg : w.heap.size ≤ g) (hf : Fl g r w0) => union_any L M g r w w0 (.slice aA nA cA) (.slice aB nB cB) hr hr2 h hg hf (by omega))
  have HSP := Lib.hid (fun (o : Value) (w' : World) (h : RdE (unL L M) o w') => srplQ_any (unL L M) S o w' h (by omega) S0 wa.1.2)
  have HLW := Lib.hid (fun (o : Value) (w' : World) (h : RdE (unL L M) o w') => lowQ_any (unL L M) (srpl (unL L M) S) o w' h (by omega) hd0)
  clear hr hr2 hn hU hUl hUn na nb
  dsimp only at *
  generalize unL L M = U at *
  generalize unF L M = F at *
  generalize srpl U S = d at *
  generalize lowL U d = D at *
  obtain ⟨⟨wa1, wa2⟩, ⟨wa3, wa4⟩, wa5, wa6⟩ := wa
  obtain ⟨⟨wb1, wb2⟩, ⟨wb3, wb4⟩, wb5, wb6⟩ := wb
  dsimp only at *
  have HA1 := Lib.hid (fun (g : Nat) (q : Bool) (w : World) (h : Fl g q w) => addQ_one T T' g q w wa3 wa4 wb3 wb4 h)
  have HA2 := Lib.hid (fun (g : Nat) (q : Bool) (w : World) (h : Fl g q w) => addQ_one K K' g q w wa5 wa6 wb5 wb6 h)
  have HA3 := Lib.hid (fun (g : Nat) (q : Bool) (w : World) (h : Fl g q w) => addQ_one (tS K K') d g q w (by omega) (by omega) hd1.1 hd1.2 h)
  clear hd0 hd1 htk wa1 wa2 wa3 wa4 wa5 wa6 wb1 wb2 wb3 wb4 wb5 wb6 S0
  generalize tS (tS K K') d = k2 at *
  generalize tF (tS K K') d = f2 at *
  generalize tS K K' = k1 at *
  generalize tF K K' = f1 at *
  generalize tS T T' = t1 at *
  generalize tF T T' = f0 at *
  go_enter Try.func28, Try.ntmps28
  go_upto_region 1 with (fail)
  refine wp_meetX 5 10 7 (fun v wx => ∃ g : Nat, v = .pointer (some ⟨g, 0, none⟩) ∧ Hid (SM w ⟨S, T, K, L, s⟩ (.slice aA nA cA) ⟨S', T', K', M, s'⟩ (.slice aB nB cB) wx ∧ Fl g (s || s') wx ∧ w.heap.size + 3 ≤ g ∧ g < wx.heap.size)) ?_ ?_
  · intro G hG
    have hFL : ∀ (w' : World) (s : Bool), Fl w'.heap.size s (w'.alloc (.cells #[.bool s] 83)) ∧ w'.heap.size < (w'.alloc (.cells #[.bool s] 83)).heap.size := fun w' s => ⟨⟨by go_simp, by go_simp⟩, by simp⟩
    have HFL := Lib.hid hFL
    have HL3 : Hid (∀ (o1 o2 o3 : Obj), w.heap.size + 3 ≤ (((w.alloc o1).alloc o2).alloc o3).heap.size) := Lib.hid (fun o1 o2 o3 => by simp)
    clear hFL
    cases s
    all_goals
      go_wp2
      exact hG _ _ _ ⟨[_, _, _, _, _, _, _], rfl, rfl⟩ ⟨_, (by first | rfl | (simp; done)), Lib.hid ⟨M0.out.go (b1 _), (HFL.out _ _).1, HL3.out _ _ _, (HFL.out _ _).2⟩⟩
  intro aX wX vX hoff hX
  obtain ⟨us, hus, rfl⟩ := hoff
  obtain ⟨g, rfl, HX⟩ := hX
  match us, hus with
  | [u0, u1, u2, u3, u4, u5, u6], _ =>
    simp only [List.set_cons_succ, List.set_cons_zero, List.take_succ_cons, List.take_zero, List.drop_succ_cons, List.drop_zero, List.cons_append, List.nil_append]
    clear M0 HR HR2
    obtain ⟨⟨p0, p1, p2, p3, p4⟩, ⟨q0, q1, q2, q3, q4⟩, -, -⟩ := HX.out.1.cells
    have hgw : w.heap.size ≤ g := by have := HX.out.2.2.1; omega
    have HXB := Lib.hid HX.out.1.2.2.2
    have HXF := Lib.hid HX.out.2.1
    go_upto_region 6 with (first
      | (go_at_call 53; (with_reducible refine (HUN.out g (s || s') _ HXB.out hgw HXF.out).mono ?_); rintro e w2 ⟨o2, rfl, ho2, hf2, hO2⟩; have X2 := Lib.hid (SX.mk HX.out ho2 hf2 hO2); clear p0 p1 p2 p3 p4 q0 q1 q2 q3 q4 HUN ho2 hf2 hO2; obtain ⟨⟨p0, p1, p2, p3, p4⟩, ⟨q0, q1, q2, q3, q4⟩, -, -⟩ := X2.out.1.cells; have HRU := Lib.hid X2.out.own.rd)
      | (go_at_call 54; (with_reducible refine (HSP.out _ _ HRU.out).mono ?_); rintro e w3 ⟨rfl, hb3⟩; have X3 := Lib.hid (X2.out.go hb3); have F3 := Lib.hid X3.out.fl; clear p0 p1 p2 p3 p4 q0 q1 q2 q3 q4 HSP HRU hb3; obtain ⟨⟨p0, p1, p2, p3, p4⟩, ⟨q0, q1, q2, q3, q4⟩, -, -⟩ := X3.out.1.cells)
      | (go_at_call 55; (with_reducible refine (HA1.out _ _ _ F3.out).mono ?_); rintro e w4 ⟨rfl, hf4, ho4⟩; have X4 := Lib.hid (X3.out.one ho4 hf4); have F4 := Lib.hid X4.out.fl; clear p0 p1 p2 p3 p4 q0 q1 q2 q3 q4 HA1 F3 hf4 ho4; obtain ⟨⟨p0, p1, p2, p3, p4⟩, ⟨q0, q1, q2, q3, q4⟩, -, -⟩ := X4.out.1.cells)
      | (go_at_call 55; (with_reducible refine (HA2.out _ _ _ F4.out).mono ?_); rintro e w5 ⟨rfl, hf5, ho5⟩; have X5 := Lib.hid (X4.out.one ho5 hf5); have F5 := Lib.hid X5.out.fl; clear HA2 F4 hf5 ho5)
      | (go_at_call 55; (with_reducible refine (HA3.out _ _ _ F5.out).mono ?_); rintro e w6 ⟨rfl, hf6, ho6⟩; have X6 := Lib.hid (X5.out.one ho6 hf6); have D6 := Lib.hid (X6.out.go (Below.refl _ _).drew); have RU6 := Lib.hid D6.out.own.rd; clear p0 p1 p2 p3 p4 q0 q1 q2 q3 q4 HA3 F5 hf6 ho6; obtain ⟨⟨p0, p1, p2, p3, p4⟩, -, ⟨o0, o1, o2, o3, o4⟩, y0, y1, y2, y3, y4⟩ := D6.out.1.cells; obtain ⟨fl0, flf⟩ := D6.out.fl))
    have HW3 : Hid (w.heap.size + 1 + 1 < w6.heap.size) := Lib.hid (by have := X6.out.1.lt; omega)
    clear hgw HXB HXF HX
    go_region_law (first
      | ((try go_simp); go_at_call 56; (with_reducible refine (HLW.out _ _ RU6.out).mono ?_); rintro e w8 ⟨u8, rfl, ho8, hb8⟩; obtain ⟨a8, cap8, rfl⟩ := ho8.rd.shape; have X8 := Lib.hid (D6.out.go hb8); have O8 := Lib.hid ho8; clear p0 p1 p2 p3 p4 o0 o1 o2 o3 o4 y0 y1 y2 y3 y4 fl0 flf ho8 hb8; obtain ⟨⟨p0, p1, p2, p3, p4⟩, -, ⟨o0, o1, o2, o3, o4⟩, y0, y1, y2, y3, y4⟩ := X8.out.1.cells; obtain ⟨fl0, flf⟩ := X8.out.fl))
    all_goals
      go_wp2
      refine bodyPost_ret (v := .agg #[.int .i64 S, .int .i64 t1, .int .i64 k2, .slice a8 D.length cap8, .bool (s || s' || F || f0 || f1 || f2)]) (by simp [results, Try.results28, go_sem, *]) rfl ⟨_, rfl, ⟨a8, D.length, cap8, rfl, ?_⟩, ?_⟩
      · refine OwnE.mono (B := w6.drew.heap.size) ?_ (by have := HW3.out; show w.heap.size ≤ w6.heap.size; omega)
        have l3 : w.heap.size + 1 + 1 < w6.drew.heap.size := by have := HW3.out; show w.heap.size + 1 + 1 < w6.heap.size; omega
        exact ((((O8.out.keep l3 _ _).keep l3 _ _).keep l3 _ _).keep l3 _ _).keep l3 _ _
      · have l3 : w.heap.size ≤ w.heap.size + 1 + 1 := by omega
        exact bsetB (bsetB (bsetB (bsetB (bsetB X8.out.1.2.2.2 _ _ _ l3) _ _ _ l3) _ _ _ l3) _ _ _ l3) _ _ _ l3
end Go.Proofs.Ytmmdnomfpfcjiaa
