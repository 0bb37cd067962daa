/- The walk of the law WireTorn. -/
import Derived.Test.YtnlboecmcgjmjaaLaw3B
import Derived.Test.YtnlboecmcgjmjaaWireFacts2
namespace Go.Proofs.Ytnlboecmcgjmjaa
open Go.RowKit
set_option linter.unusedVariables false
set_option linter.unusedSimpArgs false
theorem k_unf {L : List Int} {v : Value} {w : World} (h : Rd L v w) {t : Int} {B : List Int} {u e : Int} (hd : unfr L = (t, B, u, e)) :
    Calls Try.prog 25 #[v] w fun r w' => ∃ v', r = .returned (.tuple #[.int .u8 t, v', .int .i64 u, .int .i64 e]) ∧ Own w.heap.size B v' w' ∧ Below w.heap.size w w' := by
  have := unframe_any L v w h
  rw [hd] at this
  exact this
theorem k_frame (tag : Int) {L C : List Int} {v : Value} {w : World} (ht : 0 ≤ tag ∧ tag ≤ 255) (h : Rd L v w) (hl : L.length ≤ 1048576) (hC : frameB tag L = C) :
    Calls Try.prog 23 #[.int .u8 tag, v] w fun e w' => ∃ v', e = .returned (.tuple #[v', .int .i64 0]) ∧ Own w.heap.size C v' w' ∧ Below w.heap.size w w' := by
  have := frame_any tag L v w ht h
  have e : frameE L = 0 := by unfold frameE; rw [if_pos hl]
  rw [e, hC] at this
  exact this
/-- An own slice with an element: its cells, and what a store leaves. -/
theorem Own.cells {B : Nat} {L : List Int} {a : Option Addr} {n cap : Nat} {w : World} (h : Own B L (.slice a n cap) w) (hp : 0 < L.length) :
    ∃ g, a = some ⟨g, 0, none⟩ ∧ B ≤ g ∧ (∀ j, j < L.length → w.cell? ⟨g, j, none⟩ = some (.int .u8 (L.getD j 0)) ∧ w.frozen? ⟨g, j, none⟩ = false) ∧
      ∀ j c, 0 ≤ c ∧ c ≤ 255 → Own B (L.set j c) (.slice (some ⟨g, 0, none⟩) n cap) (w.setCell ⟨g, j, none⟩ (.int .u8 c)) := by
  obtain ⟨hy, ho⟩ := h
  have h2 := ho.2
  rcases h2 with ⟨he, hn⟩ | ⟨g, cap', cur, he, hb, _⟩
  · omega
  · simp only [Value.slice.injEq] at he
    obtain ⟨rfl, hnl, rfl⟩ := he
    subst hnl
    refine ⟨g, rfl, hb, fun j hj => ⟨(World.ownsRow.cellAt ho j (by omega)).trans (cells8_at hj), World.ownsRow.frozenAt ho j⟩, fun j c hc => ⟨fun x hx => ?_, ?_⟩⟩
    · rcases List.mem_or_eq_of_mem_set hx with h | rfl
      · exact hy x h
      · exact hc
    · have := (World.ownsRow.stored ho j (.int .u8 c)).1
      rw [List.length_set]
      have e : (cells8 L).set j (.int .u8 c) = cells8 (L.set j c) := by simp [cells8, List.map_set]
      rw [e] at this
      exact this
set_option maxRecDepth 100000 in
set_option maxHeartbeats 2000000 in
theorem wireTorn_walk (tag : Int) (a : Option Addr) (m cap : Nat) (z : List Int) (a2 : Option Addr) (m2 cap2 : Nat) (z2 : List Int) (at_ by_ : Int) (W : World) (wt : (Lit.int .u8 tag).wf = true) (w0 : InRow .u8 W a m cap z) (w1 : InRow .u8 W a2 m2 cap2 z2) (wa : (Lit.int .i64 at_).wf = true) (wb : (Lit.int .u8 by_).wf = true) :
    Calls Try.prog 8 #[.int .u8 tag, .slice a m cap, .slice a2 m2 cap2, .int .i64 at_, .int .u8 by_] W fun e w' => e = .returned (.bool true) ∧ Below W.heap.size W w' := by
  have hr := inRow_rd w0
  have hr2 := inRow_rd w1
  have ht := wf_bd8 wt
  have hby := wf_bd8 wb
  have hlz : (z.take m).length = m := by have := w0.1; have := w0.2.2.1; simp; omega
  have hlz2 : (z2.take m2).length = m2 := by have := w1.1; have := w1.2.2.1; simp; omega
  have hm63 : m ≤ 9223372036854775807 := by have := w0.1; have := w0.2.1; unfold maxLen at this; omega
  have hm263 : m2 ≤ 9223372036854775807 := by have := w1.1; have := w1.2.1; unfold maxLen at this; omega
  by_cases hg : 200 < m ∨ 100 < m2
  · by_cases hb1 : 200 < m
    all_goals
      clear hr hr2 w0 w1 hlz hlz2 wt wa wb ht hby
      go_enter Try.func8, Try.ntmps8
      go_wp2_with (go_at_call 10; refine (known_any _).mono ?_; rintro e w' ⟨rfl, hbl⟩)
      go_ret
      exact ⟨rfl, hbl⟩
  · have hm2 : m ≤ 200 := by omega
    have hm1 : m2 ≤ 100 := by omega
    have hmask := i64_mask 16 (by decide) at_
    obtain ⟨Q, hQ⟩ : ∃ Q : Nat, at_ % ((2 ^ 16 : Nat) : Int) = (Q : Int) := ⟨(at_ % ((2 ^ 16 : Nat) : Int)).toNat, by omega⟩
    have hmask2 : bits .and .i64 at_ 65535 = (Q : Int) := by rw [← hQ]; exact hmask
    have hQb : Q < 65536 := by omega
    have hy := hr.1
    obtain ⟨lu1, lu9⟩ := uintB_len m (by omega)
    have hhl := headB_len tag (z.take m)
    have hfl : (frameB tag (z.take m)).length = (headB tag (z.take m)).length + 4 := by unfold frameB; rw [if_pos (by omega), List.length_append, be_len]
    rw [hlz] at hhl
    have d1 := unfr_back (tag := tag) (B := z.take m) (by omega) (z2.take m2)
    have d2 := fun k (hk : k < (frameB tag (z.take m)).length) => unfr_cut (tag := tag) (B := z.take m) (by omega) hk
    have d3 := fun i c (hi : i < (z.take m).length) (hc : 0 ≤ c ∧ c ≤ 255) (hne : c ≠ (z.take m).getD i 0) => unfr_torn (tag := tag) (B := z.take m) (by omega) hy hi hc hne
    have d4 : ∀ i, i < m → (frameB tag (z.take m)).getD ((frameB tag (z.take m)).length - 4 - m + i) 0 = (z.take m).getD i 0 := fun i hi => by
      have e1 : frameB tag (z.take m) = headB tag (z.take m) ++ be (adlerN (headB tag (z.take m))) 4 := by unfold frameB; rw [if_pos (by omega)]
      have e2 : (frameB tag (z.take m)).length - 4 - m + i = (uintB (z.take m).length).length + i + 1 := by rw [hlz]; omega
      rw [e2, e1, getD_app_lt (by rw [hhl, hlz]; omega)]
      have e3 : (headB tag (z.take m)).getD ((uintB (z.take m).length).length + i + 1) 0 = (uintB (z.take m).length ++ z.take m).getD ((uintB (z.take m).length).length + i) 0 := rfl
      rw [e3]
      simp only [List.getD]
      rw [List.getElem?_append_right (by omega), Nat.add_sub_cancel_left]
    have e5 : (headB tag (z.take m)).length - (z.take m).length = (frameB tag (z.take m)).length - 4 - m := by rw [hlz]; omega
    rw [e5] at d3
    have h1 := k_frame tag ht hr (by omega) (rfl : frameB tag (z.take m) = _)
    have hF1 : m + 6 ≤ (frameB tag (z.take m)).length := by omega
    have hF2 : (frameB tag (z.take m)).length ≤ m + 14 := by omega
    clear hmask hQ e5 hhl hfl hg w0 w1 wt wa wb ht
    generalize frameB tag (z.take m) = FB at *
    clear lu1 lu9
    have D1 := Lib.hid d1
    have D2 := Lib.hid d2
    have D3 := Lib.hid d3
    have D4 := Lib.hid d4
    have HY := Lib.hid hy
    have HR := Lib.hid hr
    have HR2 := Lib.hid hr2
    have HLZ := Lib.hid hlz
    have HLZ2 := Lib.hid hlz2
    clear d1 d2 d3 d4 hy hr hr2 hlz hlz2
    generalize z.take m = Z at *
    generalize z2.take m2 = Z2 at *
    obtain ⟨I, hI⟩ : ∃ I : Nat, I = Q % m := ⟨_, rfl⟩
    have hIm : 0 < m → I < m := fun h => by rw [hI]; exact Nat.mod_lt _ h
    have hrem : (Q : Int).tmod (m : Int) = (I : Int) := by rw [hI]; exact Int.ofNat_tmod Q m
    clear hI
    go_enter Try.func8, Try.ntmps8
    go_wp2_with (first
      | (go_at_call 23; refine h1.mono ?_; rintro e x1 ⟨v1, rfl, o1, b1⟩; obtain ⟨a1, cap1, rfl⟩ := o1.shape; have O1 := Lib.hid o1; have B1 := Lib.hid b1; clear o1 b1)
      | (at_builtin; refine wp_app rfl _ (.tmp 53) _ rfl x1.heap.size [] FB _ _ rfl rfl (Own.empty _ _) O1.out.rd.src (Nat.le_refl _) ?_ ?_; (simp; omega); intro y1 x2 o2 b2; have O2 := Lib.hid o2; have B2 := Lib.hid b2; clear o2 b2)
      | (at_builtin; refine wp_app rfl (.tmp 54) (.tmp 55) _ rfl x1.heap.size FB Z2 _ _ rfl rfl O2.out ((HR2.out.below (B1.out.trans (B2.out.mono B1.out.size))).src) B2.out.size ?_ ?_; (have := HLZ2.out; omega); intro y2 x3 o3 b3; have e3 := k_unf o3.rd D1.out; have B3 := Lib.hid (B2.out.trans b3); clear o3 b3)
      | (go_at_call 25; refine e3.mono ?_; rintro e x4 ⟨v3, rfl, o4, b4⟩; clear e3; have b5 : Below x1.heap.size x1 x4 := B3.out.trans (b4.mono B3.out.size); have c1 := o4.rd.conv; have c2 := (HR.out.below (B1.out.trans (b5.mono B1.out.size))).conv; have B4 := Lib.hid b5; clear o4 b4 b5))
    go_loopw [17, 18, 19, 20, 21] (fun k _ _ _ _ wr => ∃ j : Nat, j ≤ FB.length ∧ k = .int .i64 (j : Int) ∧ Below x1.heap.size x1 wr) (fun k _ _ _ _ _ => FB.length - (intOf k).toNat)
    case atStart => exact ⟨0, by omega, rfl, B4.out⟩
    case round =>
      clear c1 c2
      obtain ⟨j, hj, rfl, hb⟩ := hrel
      by_cases hlt : j < FB.length
      · obtain ⟨-, hc1, b, off, rfl, hh⟩ := (O1.out.below hb).heads (by omega)
        have hk := k_unf (hh j hj) (D2.out j hlt)
        have HB := Lib.hid hb
        clear hh hb
        go_wp2_with (go_at_call 25; refine hk.mono ?_; rintro e w' ⟨v', rfl, -, hb'⟩; have HBn := Lib.hid (HB.out.trans (hb'.mono HB.out.size)); clear hb')
        go_roundw
        case rel => exact ⟨j + 1, by omega, by go_num, HBn.out⟩
        case measure => simp [intOf] <;> omega
      · obtain rfl : j = FB.length := by omega
        have hbW : Below W.heap.size W wr := B1.out.trans (hb.mono B1.out.size)
        have HBW := Lib.hid hbW
        by_cases hm0 : m = 0
        · have hm0' : ((m : Int) == 0) = true := by simp [hm0]
          clear hb hbW hrem hIm hm0
          go_wp2_with (go_at_call 10; refine (known_any _).mono ?_; rintro e w' ⟨rfl, hbl⟩)
          go_ret
          exact ⟨rfl, HBW.out.trans (hbl.mono HBW.out.size)⟩
        · have hm0' : ((m : Int) == 0) = false := by simp; omega
          by_cases hb0 : by_ = 0
          · have hb0' : (by_ == 0) = true := by simp [hb0]
            clear hb hbW hrem hIm hb0
            go_wp2_with (go_at_call 10; refine (known_any _).mono ?_; rintro e w' ⟨rfl, hbl⟩)
            go_ret
            exact ⟨rfl, HBW.out.trans (hbl.mono HBW.out.size)⟩
          · have hb0' : (by_ == 0) = false := by simp [hb0]
            have hI2 := hIm (by omega)
            obtain ⟨ix, hixN⟩ : ∃ ix : Nat, FB.length - 4 - m + I = ix := ⟨_, rfl⟩
            have hix : (FB.length : Int) - 4 - (m : Int) + (I : Int) = (ix : Int) := by omega
            have hixl : ix < FB.length := by omega
            have hv := D4.out I hI2
            have hzb := HY.out.at_ I
            obtain ⟨xb0, xb1, xbn⟩ := xor_u8_bd (Z.getD I 0) by_ hzb hby hb0
            have hd := D3.out I (bits .xor .u8 (Z.getD I 0) by_) (by rw [HLZ.out]; exact hI2) ⟨xb0, xb1⟩ xbn
            rw [hixN] at hv hd
            generalize Z.getD I 0 = xv at *
            have HD := Lib.hid hd
            have HV := Lib.hid hv
            have HP := Lib.hid (And.intro xb0 xb1)
            have HN := Lib.hid hixN
            have HO := Lib.hid (O1.out.below hb)
            clear hd hv hixN hIm xb0 xb1 xbn hb hbW hb0 hm0
            go_wp2_with (first
              | (at_builtin; refine wp_app rfl _ (.tmp 107) _ rfl wr.heap.size [] FB _ _ rfl rfl (Own.empty _ _) HO.out.rd.src (Nat.le_refl _) ?_ ?_; (simp; omega); intro y5 x6 o6 b6; obtain ⟨a5, cap5, rfl⟩ := o6.shape; obtain ⟨g, rfl, hgB, hcl, hst⟩ := o6.cells (by simp; omega); have cj : x6.cell? ⟨g, ix, none⟩ = some (.int .u8 xv) := HV.out ▸ (hcl ix hixl).1; have cf : x6.frozen? ⟨g, ix, none⟩ = false := (hcl ix hixl).2; have hs6 := hst ix _ HP.out; have hbb := b6.setCell (p := ⟨g, ix, none⟩) hgB (.int .u8 (bits .xor .u8 xv by_)); have hk := k_unf (Own.rd hs6) HD.out; have HB6 := Lib.hid hbb; clear hcl hst hs6 b6 o6 hbb)
              | (go_at_call 25; refine hk.mono ?_; rintro e x7 ⟨v7, rfl, -, b7⟩; have HB7 := Lib.hid (HB6.out.trans (b7.mono HB6.out.size)); clear b7)
              | (go_at_call 10; refine (known_any _).mono ?_; rintro e w' ⟨rfl, hbl⟩))
            go_ret
            exact ⟨rfl, HBW.out.trans ((HB7.out.trans (hbl.mono HB7.out.size)).mono HBW.out.size)⟩
end Go.Proofs.Ytnlboecmcgjmjaa
