/- The contract of sketchstorelaw8.made. -/
import Derived.Test.YtgnopnifdiipkaaDoorOthI
import Derived.Test.YtgnopnifdiipkaaDoorRLIns
import Derived.Test.YtgnopnifdiipkaaDoorBase
namespace Go.Proofs.YtgnopnifdiipkaaDoor
open Go.RowKit
set_option linter.unusedVariables false
set_option linter.unusedSimpArgs false
theorem LSt.oth {g h : Nat} {P x : Int} {v : Value} {w w' : World} (hc : LSt h P x v w) (ho : Oth g w w') (hg : h ≠ g) : LSt h P x v w' := hc.keep (ho.2 h hg)
theorem LSt.set3 {g : Nat} {P x : Int} {v : Value} {w : World} (h : LSt g P x v w) (P' x' : Int) (a : Option Addr) (n cap : Nat) :
    LSt g P' x' (.slice a n cap) (((w.setCell ⟨g, 0, none⟩ (.int .i64 P')).setCell ⟨g, 1, none⟩ (.int .u64 x')).setCell ⟨g, 2, none⟩ (.slice a n cap)) := by
  obtain ⟨⟨h0, h1, h2⟩, f0, f1, f2⟩ := h
  exact ⟨⟨by go_simp, by go_simp, by go_simp⟩, by go_simp, by go_simp, by go_simp⟩
theorem Oth.set3 (g : Nat) (w : World) (v0 v1 v2 : Value) :
    Oth g w (((w.setCell ⟨g, 0, none⟩ v0).setCell ⟨g, 1, none⟩ v1).setCell ⟨g, 2, none⟩ v2) :=
  ⟨setCells_below g [v0, v1, v2] 0 w, fun k hk => setCells_other g [v0, v1, v2] 0 w k hk⟩
/-- Sketches whose numbers are Go's. -/
theorem WfL.none : WfL LL.none := ⟨by decide, by decide⟩
theorem WfL.new {P x : Int} (x0 : 0 ≤ x) (x1 : x ≤ 18446744073709551615) : WfL (newL P x) := by
  unfold newL
  split
  · exact ⟨x0, x1⟩
  · exact WfL.none
theorem WfL.ins {c : LL} (h : WfL c) (k : ByteArray) (n : Int) : WfL (llIns c k n) := by
  unfold llIns
  split
  · exact WfL.none
  · split
    · exact WfL.none
    · exact h
theorem WfL.mer {c : LL} (h : WfL c) (d : LL) : WfL (llMer c d) := by
  unfold llMer
  split
  · exact WfL.none
  · exact h
/-- Insertions of items, one after the other. -/
def ldUp (c : LL) (l : List Int) : LL := l.foldl (fun c n => llIns c (keyS (n % 65536)) (wtS (n % 65536))) c
theorem ldUp_succ (c : LL) {l : List Int} {k : Nat} (h : k < l.length) : ldUp c (l.take (k + 1)) = llIns (ldUp c (l.take k)) (keyS (l.getD k 0 % 65536)) (wtS (l.getD k 0 % 65536)) := by
  unfold ldUp
  rw [take_snoc l k h, List.foldl_append]
  rfl
theorem WfL.up {c : LL} (h : WfL c) (l : List Int) : WfL (ldUp c l) := by
  unfold ldUp
  induction l generalizing c with
  | nil => exact h
  | cons n l ih => exact ih (h.ins _ _)
/-- The loop's variable behind k insertions. -/
def Ld (W : World) (h g : Nat) (L : List Int) (c0 : LL) (k : Nat) (w : World) : Prop :=
  LSt h 0 0 (.slice none 0 0) w ∧ Below h W w ∧ h < g ∧ g < w.heap.size ∧ ∃ a n cap, LSt g (ldUp c0 (L.take k)).P (ldUp c0 (L.take k)).x (.slice a n cap) w ∧ OffI g (ldUp c0 (L.take k)).L (.slice a n cap) w ∧ OffI h (ldUp c0 (L.take k)).L (.slice a n cap) w
theorem Ld.step {W : World} {h g : Nat} {L : List Int} {c0 d : LL} {k : Nat} {w : World} (H : LSt h 0 0 (.slice none 0 0) w) (B : Below h W w) (hg : h < g) (z : g < w.heap.size) {P x : Int} {v : Value} (C : LSt g P x v w) {a : Option Addr} {n cap : Nat} (O : OffI g d.L (.slice a n cap) w) (Q : OffI h d.L (.slice a n cap) w) (hd : ldUp c0 (L.take (k + 1)) = d) :
    Ld W h g L c0 (k + 1) (((w.setCell ⟨g, 0, none⟩ (.int .i64 d.P)).setCell ⟨g, 1, none⟩ (.int .u64 d.x)).setCell ⟨g, 2, none⟩ (.slice a n cap)) := by
  have ho := Oth.set3 g w (.int .i64 d.P) (.int .u64 d.x) (.slice a n cap)
  subst hd
  exact ⟨H.oth ho (by omega), B.trans (ho.1.mono (by omega)), hg, Nat.lt_of_lt_of_le z ho.1.size, a, n, cap, C.set3 _ _ _ _ _, O.oth ho, (O.oth ho).rd, Q.2⟩
/-- What made gives. -/
def madeL (a s : Int) (L : List Int) : LL := ldUp (newL (2 + a % 4) (IntKind.u64.wrap s)) (L.take 9)
set_option maxRecDepth 100000 in
set_option maxHeartbeats 4000000 in
theorem made_any (a s : Int) (L : List Int) (v : Value) (W : World) (s0 : -9223372036854775808 ≤ s) (s1 : s ≤ 9223372036854775807) (hv : RdI L v W) :
    Calls Tryd.prog 17 #[.int .i64 a, .int .i64 s, v] W fun e w' => ∃ u, e = .returned u ∧ RdL (madeL a s L) u w' ∧ Below W.heap.size W w' := by
  obtain ⟨al, cl, rfl⟩ := hv.shape
  have m1 := mask2 a
  have e0 : 0 ≤ a % 4 ∧ a % 4 ≤ 3 := by omega
  have hx := wrap_bd s
  unfold madeL
  have h1 := fun w => rlnew_any (2 + a % 4) (IntKind.u64.wrap s) w
  have HW := Lib.hid (WfL.new (P := 2 + a % 4) (x := IntKind.u64.wrap s) hx.1 hx.2)
  generalize newL (2 + a % 4) (IntKind.u64.wrap s) = c0 at *
  generalize newLE (2 + a % 4) = E0 at *
  generalize a % 4 = p at *
  obtain ⟨e00, e01⟩ := e0
  clear hx
  have HR := Lib.hid hv
  have C0 := Lib.hid (LSt.new 0 0 (.slice none 0 0) 26 W)
  clear hv
  go_enter Tryd.func17, Tryd.ntmps17
  go_wp2_with (go_at_call 12; (with_reducible refine (h1 _).mono ?_); rintro e w2 ⟨v2, rfl, ⟨a2, n2, c2, rfl, ho2⟩, hb2⟩; have B2 := Lib.hid (bgo (b1 _) hb2); have hz2 : W.heap.size < w2.heap.size := (by have := hb2.size; simp at this; omega); have C2 := Lib.hid (C0.out.below hb2 (by simp)); have HI := Lib.hid (show Ld W W.heap.size w2.heap.size L c0 0 (w2.alloc (.cells #[.int .i64 c0.P, .int .u64 c0.x, .slice a2 n2 c2] 26)) from ⟨C2.out.below (b1 _) hz2, bal B2.out _, hz2, by simp, a2, n2, c2, LSt.new _ _ _ _ _, OffI.below (OffI.new ho2.rd (Nat.le_refl _)) (b1 _), OffI.below (OffI.own ho2 (by simp)) (b1 _)⟩); clear h1 ho2 hb2)
  clear C0 B2 C2 hz2
  go_loopw [9] (fun i wr => ∃ k : Nat, k ≤ L.length ∧ k ≤ 9 ∧ i = .int .i64 (k : Int) ∧ Hid (Ld W W.heap.size w2.heap.size L c0 k wr)) (fun i _ => 9 - (intOf i).toNat)
  case atStart => exact ⟨0, by omega, by omega, rfl, HI⟩
  case round =>
    clear HI
    obtain ⟨k, hk, hk7, rfl, HI⟩ := hrel
    obtain ⟨hch, hbw, hhg, hgs, a, n, cap, hcg, hof, hoh⟩ := HI.out
    have hlL : (L.length : Int) ≤ 9223372036854775807 := by
      obtain ⟨_, _, _, _, h1, h2, _⟩ := HR.out
      unfold maxLen at h2
      omega
    by_cases hlt : k < L.length
    · by_cases hlt7 : k < 9
      · have hz := HR.out.at_ k
        have mz := mask16 (L.getD k 0)
        have hit := fun w => bitem_any (L.getD k 0 % 65536) w (by omega) (by omega)
        have hks := keyS_bd (L.getD k 0 % 65536)
        have hwt := wtS_bd (L.getD k 0 % 65536)
        have HWk := HW.out.up (L.take k)
        have h2 := fun (v : Value) (w : World) (hv : RdL (ldUp c0 (L.take k)) v w) => rlins_any (ldUp c0 (L.take k)) v (keyS (L.getD k 0 % 65536)) (wtS (L.getD k 0 % 65536)) w HWk hv (by unfold maxLen; omega) (by omega) (by omega)
        have HS := Lib.hid (ldUp_succ c0 hlt)
        obtain ⟨_, a5, cap5, he5, _, _, hc5⟩ := HR.out.below (hbw.mono (Nat.le_refl _))
        simp only [Value.slice.injEq, true_and] at he5
        obtain ⟨rfl, rfl⟩ := he5
        obtain ⟨b5, off5, rfl, hb5, hcell5⟩ := hc5 (by omega)
        have hcc5 := hcell5 k hlt
        have HC := Lib.hid hcg
        have HO := Lib.hid hof
        have HH := Lib.hid hch
        have HB := Lib.hid hbw
        clear hcell5 hc5 hof hoh hch hbw hks hwt HWk hz
        generalize L.getD k 0 = y at *
        generalize y % 65536 = z at *
        generalize keyS z = K at *
        generalize wtS z = x at *
        generalize hc1 : ldUp c0 (L.take k) = c at *
        generalize hc2 : llIns c K x = d at *
        generalize llInsE c K x = E1 at *
        clear hc1 hc2
        obtain ⟨⟨p0, p1, p2⟩, _⟩ := HC.out
        clear hcg
        go_wp2
        refine wp_meet 19 21 (fun wx => Hid (Ld W W.heap.size w2.heap.size L c0 (k + 1) wx)) ?_ ?_
        · intro G hG
          go_region_law (first
            | (go_simp; go_at_call 18; (with_reducible refine (hit _).mono ?_); rintro e w3 ⟨rfl, hb3⟩; have C3 := Lib.hid ((LSt.drewM HC.out _).below hb3 hgs); have H3 := Lib.hid ((LSt.drewM HH.out _).below hb3 (Nat.lt_trans hhg hgs)); have O3 := Lib.hid ((OffI.drewN HO.out _).below hb3); have B3 := Lib.hid ((below_drewN HB.out _).trans (hb3.mono (Nat.le_of_lt (Nat.lt_trans hhg hgs)))); have z3 := Nat.lt_of_lt_of_le hgs hb3.size; obtain ⟨⟨p0, p1, p2⟩, _⟩ := C3.out; clear hb3)
            | (go_simp; go_at_call 20; (with_reducible refine (h2 _ _ (RdL.of O3.out.rd)).mono ?_); rintro e w4 ⟨u, rfl, ⟨a4, n4, c4, rfl, ho4⟩, hb4⟩; have C4 := Lib.hid (C3.out.below hb4 z3); have H4 := Lib.hid (H3.out.below hb4 (Nat.lt_trans hhg z3)); have O4 := Lib.hid (OffI.own ho4 z3); have P4 := Lib.hid (OffI.own ho4 (Nat.lt_trans hhg z3)); have B4 := Lib.hid (B3.out.trans (hb4.mono (Nat.le_of_lt (Nat.lt_trans hhg z3)))); have z4 := Nat.lt_of_lt_of_le z3 hb4.size; obtain ⟨⟨p0, p1, p2⟩, f0, f1, f2⟩ := C4.out; clear hb4 ho4))
          all_goals exact hG _ _ ⟨[_, _, _, _, _, _, _, _, _, _, _, _, _, _, _, _, _, _, _, _, _], rfl, rfl⟩ (Lib.hid (Ld.step H4.out B4.out hhg z4 C4.out O4.out P4.out HS.out))
        · clear HI HO HH HB HC HS hcc5 mz p0 p1 p2
          intro a' wz hoff HX
          obtain ⟨us, hus, rfl⟩ := hoff
          match us, hus with
          | [u0, u1, u2, u3, u4, u5, u6, u7, u8, u9, u10, u11, u12, u13, u14, u15, u16, u17, u18, u19, u20], _ =>
            simp only [List.take_succ_cons, List.take_zero, List.drop_succ_cons, List.drop_zero, List.cons_append, List.nil_append]
            go_wp2
            go_roundw
            case rel => exact ⟨k + 1, by omega, by omega, by go_num, HX⟩
            case measure => simp [intOf]; omega
      · obtain rfl : k = 9 := by omega
        obtain ⟨c, hc⟩ : ∃ c, ldUp c0 (L.take 9) = c := ⟨_, rfl⟩
        rw [hc] at hcg hoh
        have HC := Lib.hid hc
        clear hc
        obtain ⟨⟨p0, p1, p2⟩, _⟩ := hcg
        obtain ⟨⟨q0, q1, q2⟩, g0, g1, g2⟩ := hch
        have HO := Lib.hid hoh
        have HB := Lib.hid hbw
        clear hof hoh hbw HI
        go_wp2
        refine bodyPost_ret (v := .agg #[.int .i64 c.P, .int .u64 c.x, .slice a n cap]) (by simp [results, Tryd.results17, go_sem, *]) rfl ⟨_, rfl, ?_, ?_⟩
        · rw [HC.out]
          exact ⟨_, _, _, rfl, (HO.out.oth (Oth.set3 _ _ _ _ _)).rd⟩
        · exact bset3 HB.out _ (Nat.le_refl _) _ _ _
    · obtain rfl : k = L.length := by omega
      have HLT := Lib.hid (List.take_length (l := L))
      obtain ⟨c, hc⟩ : ∃ c, ldUp c0 (L.take L.length) = c := ⟨_, rfl⟩
      rw [hc] at hcg hoh
      have HC := Lib.hid hc
      clear hc
      obtain ⟨⟨p0, p1, p2⟩, _⟩ := hcg
      obtain ⟨⟨q0, q1, q2⟩, g0, g1, g2⟩ := hch
      have HO := Lib.hid hoh
      have HB := Lib.hid hbw
      clear hof hoh hbw HI
      go_wp2
      refine bodyPost_ret (v := .agg #[.int .i64 c.P, .int .u64 c.x, .slice a n cap]) (by simp [results, Tryd.results17, go_sem, *]) rfl ⟨_, rfl, ?_, ?_⟩
      · rw [List.take_of_length_le hk7, ← HLT.out, HC.out]
        exact ⟨_, _, _, rfl, (HO.out.oth (Oth.set3 _ _ _ _ _)).rd⟩
      · exact bset3 HB.out _ (Nat.le_refl _) _ _ _
end Go.Proofs.YtgnopnifdiipkaaDoor
