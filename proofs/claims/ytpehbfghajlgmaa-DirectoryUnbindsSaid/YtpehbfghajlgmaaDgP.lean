/- The program's Bind, Unbind, Rename. -/
import Derived.Test.YtpehbfghajlgmaaDgF
import Derived.Test.YtpehbfghajlgmaaDgV
import Derived.Test.YtpehbfghajlgmaaBgX
import Derived.Test.YtpehbfghajlgmaaBgZ
namespace Go.Proofs.Ytpehbfghajlgmaa
open Go.RowKit
set_option linter.unusedVariables false
set_option linter.unusedSimpArgs false
theorem asc_vld {L : List Bg} (h : VldB L) : AscB L := by
  intro i j hij hj
  have h1 := List.pairwise_iff_getElem.1 h.2.1 i j (by omega) hj hij
  have e1 : L.getD i Bg.z = L[i] := by simp [List.getD, show i < L.length by omega]
  have e2 : L.getD j Bg.z = L[j] := by simp [List.getD, hj]
  rw [e1, e2]
  unfold befB
  rcases h1 with h1 | ⟨h1, h2, -⟩
  · rw [h1]; rfl
  · simp [h1, h2]
theorem cut_plc {L : List Bg} {x : Bg} {p : Nat} (h : CutB L x p p) (hne : ∀ y ∈ L, ¬ (y.n = x.n ∧ y.k = x.k)) : PlcAt L x p := by
  refine ⟨h.2.1, fun j h1 h2 => befB_tri (h.2.2.2 j h1 h2) (hne _ (getD_mem h2)), fun h0 => befB_asym (h.2.2.1 (p - 1) (by omega))⟩
theorem busy_split (L : List Bg) (nm : ByteArray) (ob : Int) : busyB L nm ob = ((opnB L nm).isSome || bndO L ob) := by
  have h1 : (opnB L nm).isSome = L.any (fun x => decide (x.n = nm) && x.s == 0) := by
    unfold opnB
    rw [List.findIdx?_isSome]
  rw [h1]
  unfold busyB bndO
  rw [Bool.eq_iff_iff]
  simp only [Bool.or_eq_true, List.any_eq_true, Bool.and_eq_true, beq_iff_eq, decide_eq_true_eq]
  constructor
  · rintro ⟨x, hx, h2, h3 | h3⟩
    · exact .inl ⟨x, hx, h3, h2⟩
    · exact .inr ⟨x, hx, h3, h2⟩
  · rintro (⟨x, hx, h2, h3⟩ | ⟨x, hx, h2, h3⟩)
    · exact ⟨x, hx, h3, .inl h2⟩
    · exact ⟨x, hx, h3, .inr h2⟩
/-- No binding has this name and this From. -/
theorem put_ne {L : List Bg} {nm : ByteArray} {c : Int} (h : VldB L) (hl : lateB L c = false) (ho : opnB L nm = none) : ∀ y ∈ L, ¬ (y.n = nm ∧ y.k = c) := by
  rintro y hy ⟨h1, h2⟩
  have h3 := (h.1 y hy).2.2.2.2
  have h4 := late_no hl y hy
  rcases h3 with h3 | h3
  · exact opn_no ho y hy h3 h1
  · omega
theorem opnI_none : opnI none = -1 := rfl
theorem opnI_some (i : Nat) : opnI (some i) = (i : Int) := rfl
section
variable (L : List Bg) (u : Value) (nm : ByteArray) (ob c : Int) (w : World)
set_option maxRecDepth 100000 in
set_option maxHeartbeats 2000000 in
theorem pbind_bad (hv : RdBg L u w) (hL : L.length ≤ 1000000) (z : Int) (hz : valB L = z) (h0 : z ≠ 0) :
    Calls Try.prog 9 #[u, .string nm, .int .i64 ob, .int .i64 c] w fun e w' => e = .returned (.tuple #[.slice none 0 0, .int .i64 z]) ∧ Below w.heap.size w w' := by
  have HVV := Lib.hid hv
  have hval := pvalb_any L _ w hv hL
  rw [hz] at hval
  obtain ⟨a, cap, rfl⟩ := hv.shape
  clear hv
  go_enter Try.func9, Try.ntmps9
  go_wp2_with (first
    | (go_at_call 20; refine hval.mono ?_; rintro e w1 ⟨rfl, hb1⟩; have B1 := Lib.hid hb1; clear hb1 hval))
  go_ret2
  exact ⟨rfl, B1.out⟩
set_option maxRecDepth 100000 in
set_option maxHeartbeats 2000000 in
theorem pbind_name (hv : RdBg L u w) (hL : L.length ≤ 1000000) (hz : valB L = 0) (hn : nm.size ≤ maxLen) (h1 : nameB (byt nm) = false) :
    Calls Try.prog 9 #[u, .string nm, .int .i64 ob, .int .i64 c] w fun e w' => e = .returned (.tuple #[.slice none 0 0, .int .i64 6]) ∧ Below w.heap.size w w' := by
  have HVV := Lib.hid hv
  have hval := pvalb_any L _ w hv hL
  rw [hz] at hval
  have hnm := fun w => isName_any nm w hn
  rw [h1] at hnm
  obtain ⟨a, cap, rfl⟩ := hv.shape
  clear hv
  go_enter Try.func9, Try.ntmps9
  go_wp2_with (first
    | (go_at_call 20; refine hval.mono ?_; rintro e w1 ⟨rfl, hb1⟩; have B1 := Lib.hid hb1; clear hb1 hval)
    | (go_at_call 22; refine (hnm _).mono ?_; rintro e w0 ⟨rfl, rfl⟩))
  go_ret2
  exact ⟨rfl, B1.out⟩
set_option maxRecDepth 100000 in
set_option maxHeartbeats 2000000 in
theorem pbind_rng (hv : RdBg L u w) (hL : L.length ≤ 1000000) (hz : valB L = 0) (hn : nm.size ≤ maxLen) (h1 : nameB (byt nm) = true) (h2 : ob < 1 ∨ c < 1) :
    Calls Try.prog 9 #[u, .string nm, .int .i64 ob, .int .i64 c] w fun e w' => e = .returned (.tuple #[.slice none 0 0, .int .i64 5]) ∧ Below w.heap.size w w' := by
  have HVV := Lib.hid hv
  have hval := pvalb_any L _ w hv hL
  rw [hz] at hval
  have hnm := fun w => isName_any nm w hn
  rw [h1] at hnm
  obtain ⟨a, cap, rfl⟩ := hv.shape
  clear hv
  by_cases g1 : ob < 1
  · clear h2
    go_enter Try.func9, Try.ntmps9
    go_wp2_with (first
      | (go_at_call 20; refine hval.mono ?_; rintro e w1 ⟨rfl, hb1⟩; have B1 := Lib.hid hb1; clear hb1 hval)
      | (go_at_call 22; refine (hnm _).mono ?_; rintro e w0 ⟨rfl, rfl⟩))
    go_ret2
    exact ⟨rfl, B1.out⟩
  · have g2 : c < 1 := by omega
    clear h2
    go_enter Try.func9, Try.ntmps9
    go_wp2_with (first
      | (go_at_call 20; refine hval.mono ?_; rintro e w1 ⟨rfl, hb1⟩; have B1 := Lib.hid hb1; clear hb1 hval)
      | (go_at_call 22; refine (hnm _).mono ?_; rintro e w0 ⟨rfl, rfl⟩))
    go_ret2
    exact ⟨rfl, B1.out⟩
set_option maxRecDepth 100000 in
set_option maxHeartbeats 2000000 in
theorem pbind_late (hv : RdBg L u w) (hL : L.length ≤ 1000000) (hz : valB L = 0) (hn : nm.size ≤ maxLen) (h1 : nameB (byt nm) = true) (g1 : ¬ ob < 1) (g2 : ¬ c < 1) (h3 : lateB L c = true) :
    Calls Try.prog 9 #[u, .string nm, .int .i64 ob, .int .i64 c] w fun e w' => e = .returned (.tuple #[.slice none 0 0, .int .i64 19]) ∧ Below w.heap.size w w' := by
  have HVV := Lib.hid hv
  have hval := pvalb_any L _ w hv hL
  rw [hz] at hval
  have hnm := fun w => isName_any nm w hn
  rw [h1] at hnm
  have HPS := Lib.hid (fun (w' : World) (hb : Below w.heap.size w w') => past_any L _ c w' (HVV.out.below hb) hL)
  rw [h3] at HPS
  obtain ⟨a, cap, rfl⟩ := hv.shape
  clear hv
  go_enter Try.func9, Try.ntmps9
  go_wp2_with (first
    | (go_at_call 20; refine hval.mono ?_; rintro e w1 ⟨rfl, hb1⟩; have B1 := Lib.hid hb1; clear hb1 hval)
    | (go_at_call 22; refine (hnm _).mono ?_; rintro e w0 ⟨rfl, rfl⟩)
    | (go_at_call 23; refine (HPS.out _ B1.out).mono ?_; rintro e w2 ⟨rfl, hb⟩; have B2 := Lib.hid (bgo B1.out hb); clear hb))
  go_ret2
  exact ⟨rfl, B2.out⟩
set_option maxRecDepth 100000 in
set_option maxHeartbeats 2000000 in
theorem pbind_dup1 (hv : RdBg L u w) (hL : L.length ≤ 1000000) (hz : valB L = 0) (hn : nm.size ≤ maxLen) (h1 : nameB (byt nm) = true) (g1 : ¬ ob < 1) (g2 : ¬ c < 1) (h3 : lateB L c = false) (i : Nat) (h4 : opnB L nm = some i) :
    Calls Try.prog 9 #[u, .string nm, .int .i64 ob, .int .i64 c] w fun e w' => e = .returned (.tuple #[.slice none 0 0, .int .i64 9]) ∧ Below w.heap.size w w' := by
  have HVV := Lib.hid hv
  have hval := pvalb_any L _ w hv hL
  rw [hz] at hval
  have hnm := fun w => isName_any nm w hn
  rw [h1] at hnm
  have HPS := Lib.hid (fun (w' : World) (hb : Below w.heap.size w w') => past_any L _ c w' (HVV.out.below hb) hL)
  rw [h3] at HPS
  have HFO := Lib.hid (fun (w' : World) (hb : Below w.heap.size w w') => fopen_any L _ nm w' (HVV.out.below hb) hL)
  rw [h4, opnI_some] at HFO
  have hi0 : (0 : Int) ≤ (i : Int) := by omega
  obtain ⟨a, cap, rfl⟩ := hv.shape
  clear hv
  go_enter Try.func9, Try.ntmps9
  go_wp2_with (first
    | (go_at_call 20; refine hval.mono ?_; rintro e w1 ⟨rfl, hb1⟩; have B1 := Lib.hid hb1; clear hb1 hval)
    | (go_at_call 22; refine (hnm _).mono ?_; rintro e w0 ⟨rfl, rfl⟩)
    | (go_at_call 23; refine (HPS.out _ B1.out).mono ?_; rintro e w2 ⟨rfl, hb⟩; have B2 := Lib.hid (bgo B1.out hb); clear hb)
    | (go_at_call 24; refine (HFO.out _ B2.out).mono ?_; rintro e w3 ⟨rfl, hb⟩; have B3 := Lib.hid (bgo B2.out hb); clear hb))
  go_ret2
  exact ⟨rfl, B3.out⟩
set_option maxRecDepth 100000 in
set_option maxHeartbeats 2000000 in
theorem pbind_dup2 (hv : RdBg L u w) (hL : L.length ≤ 1000000) (hz : valB L = 0) (hn : nm.size ≤ maxLen) (h1 : nameB (byt nm) = true) (g1 : ¬ ob < 1) (g2 : ¬ c < 1) (h3 : lateB L c = false) (h4 : opnB L nm = none) (h5 : bndO L ob = true) :
    Calls Try.prog 9 #[u, .string nm, .int .i64 ob, .int .i64 c] w fun e w' => e = .returned (.tuple #[.slice none 0 0, .int .i64 9]) ∧ Below w.heap.size w w' := by
  have HVV := Lib.hid hv
  have hval := pvalb_any L _ w hv hL
  rw [hz] at hval
  have hnm := fun w => isName_any nm w hn
  rw [h1] at hnm
  have HPS := Lib.hid (fun (w' : World) (hb : Below w.heap.size w w') => past_any L _ c w' (HVV.out.below hb) hL)
  rw [h3] at HPS
  have HFO := Lib.hid (fun (w' : World) (hb : Below w.heap.size w w') => fopen_any L _ nm w' (HVV.out.below hb) hL)
  rw [h4, opnI_none] at HFO
  have HBO := Lib.hid (fun (w' : World) (hb : Below w.heap.size w w') => isbnd_any L _ ob w' (HVV.out.below hb) hL)
  rw [h5] at HBO
  obtain ⟨a, cap, rfl⟩ := hv.shape
  clear hv
  go_enter Try.func9, Try.ntmps9
  go_wp2_with (first
    | (go_at_call 20; refine hval.mono ?_; rintro e w1 ⟨rfl, hb1⟩; have B1 := Lib.hid hb1; clear hb1 hval)
    | (go_at_call 22; refine (hnm _).mono ?_; rintro e w0 ⟨rfl, rfl⟩)
    | (go_at_call 23; refine (HPS.out _ B1.out).mono ?_; rintro e w2 ⟨rfl, hb⟩; have B2 := Lib.hid (bgo B1.out hb); clear hb)
    | (go_at_call 24; refine (HFO.out _ B2.out).mono ?_; rintro e w3 ⟨rfl, hb⟩; have B3 := Lib.hid (bgo B2.out hb); clear hb)
    | (go_at_call 25; refine (HBO.out _ B3.out).mono ?_; rintro e w4 ⟨rfl, hb⟩; have B4 := Lib.hid (bgo B3.out hb); clear hb))
  go_ret2
  exact ⟨rfl, B4.out⟩
set_option maxRecDepth 100000 in
set_option maxHeartbeats 2000000 in
theorem pbind_ok (hv : RdBg L u w) (hL : L.length ≤ 1000000) (hz : valB L = 0) (hn : nm.size ≤ maxLen) (h1 : nameB (byt nm) = true) (g1 : ¬ ob < 1) (g2 : ¬ c < 1) (g3 : ob ≤ 9223372036854775807) (g4 : c ≤ 9223372036854775807) (h3 : lateB L c = false) (h4 : opnB L nm = none) (h5 : bndO L ob = false) :
    Calls Try.prog 9 #[u, .string nm, .int .i64 ob, .int .i64 c] w fun e w' => ∃ v p, e = .returned (.tuple #[v, .int .i64 0]) ∧ OwnBg w.heap.size (L.take p ++ [⟨nm, ob, c, 0⟩] ++ L.drop p) v w' ∧ CutB L ⟨nm, ob, c, 0⟩ p p ∧ Below w.heap.size w w' := by
  have HVV := Lib.hid hv
  have hval := pvalb_any L _ w hv hL
  rw [hz] at hval
  have hnm := fun w => isName_any nm w hn
  rw [h1] at hnm
  have HPS := Lib.hid (fun (w' : World) (hb : Below w.heap.size w w') => past_any L _ c w' (HVV.out.below hb) hL)
  rw [h3] at HPS
  have HFO := Lib.hid (fun (w' : World) (hb : Below w.heap.size w w') => fopen_any L _ nm w' (HVV.out.below hb) hL)
  rw [h4, opnI_none] at HFO
  have HBO := Lib.hid (fun (w' : World) (hb : Below w.heap.size w w') => isbnd_any L _ ob w' (HVV.out.below hb) hL)
  rw [h5] at HBO
  have HIN := Lib.hid (fun (w' : World) (hb : Below w.heap.size w w') => insert_any L nm ob c 0 _ w' (HVV.out.below hb) (asc_vld (vld_of hz)) hL ⟨hn, ⟨by show (-9223372036854775808 : Int) ≤ ob; omega, g3⟩, ⟨by show (-9223372036854775808 : Int) ≤ c; omega, g4⟩, by show (-9223372036854775808 : Int) ≤ 0 ∧ (0 : Int) ≤ 9223372036854775807; decide⟩)
  obtain ⟨a, cap, rfl⟩ := hv.shape
  clear hv
  go_enter Try.func9, Try.ntmps9
  go_wp2_with (first
    | (go_at_call 20; refine hval.mono ?_; rintro e w1 ⟨rfl, hb1⟩; have B1 := Lib.hid hb1; clear hb1 hval)
    | (go_at_call 22; refine (hnm _).mono ?_; rintro e w0 ⟨rfl, rfl⟩)
    | (go_at_call 23; refine (HPS.out _ B1.out).mono ?_; rintro e w2 ⟨rfl, hb⟩; have B2 := Lib.hid (bgo B1.out hb); clear hb)
    | (go_at_call 24; refine (HFO.out _ B2.out).mono ?_; rintro e w3 ⟨rfl, hb⟩; have B3 := Lib.hid (bgo B2.out hb); clear hb)
    | (go_at_call 25; refine (HBO.out _ B3.out).mono ?_; rintro e w4 ⟨rfl, hb⟩; have B4 := Lib.hid (bgo B3.out hb); clear hb)
    | (go_at_call 26; refine (HIN.out _ B4.out).mono ?_; rintro e w5 ⟨v5, p, rfl, ho, hc, hb⟩; have HO := Lib.hid ho; have HC := Lib.hid hc; have B5 := Lib.hid (bgo B4.out hb); clear ho hc hb))
  go_ret2
  exact ⟨_, p, rfl, HO.out.mono B4.out.size, HC.out, B5.out⟩
end
theorem pbind_any (L : List Bg) (u : Value) (nm : ByteArray) (ob c : Int) (w : World) (hv : RdBg L u w) (hL : L.length ≤ 1000000) (hn : nm.size ≤ maxLen) (ho : ob ≤ 9223372036854775807) (hc : c ≤ 9223372036854775807) :
    Calls Try.prog 9 #[u, .string nm, .int .i64 ob, .int .i64 c] w fun e w' => OutB (bndE L nm ob c) (PutB L ⟨nm, ob, c, 0⟩) w e w' := by
  by_cases hz : valB L = 0
  · cases h1 : nameB (byt nm) with
    | false =>
      have e : bndE L nm ob c = 6 := by unfold bndE; rw [if_neg (fun h => h hz), if_pos h1]
      rw [e]
      exact (pbind_name L u nm ob c w hv hL hz hn h1).mono fun e w' h => OutB.bad (by decide) h
    | true =>
      have h1' : ¬ nameB (byt nm) = false := by rw [h1]; decide
      by_cases h2 : ob < 1 ∨ c < 1
      · have e : bndE L nm ob c = 5 := by unfold bndE; rw [if_neg (fun h => h hz), if_neg h1', if_pos h2]
        rw [e]
        exact (pbind_rng L u nm ob c w hv hL hz hn h1 h2).mono fun e w' h => OutB.bad (by decide) h
      · have g1 : ¬ ob < 1 := fun h => h2 (.inl h)
        have g2 : ¬ c < 1 := fun h => h2 (.inr h)
        cases h3 : lateB L c with
        | true =>
          have e : bndE L nm ob c = 19 := by unfold bndE; rw [if_neg (fun h => h hz), if_neg h1', if_neg h2, if_pos h3]
          rw [e]
          exact (pbind_late L u nm ob c w hv hL hz hn h1 g1 g2 h3).mono fun e w' h => OutB.bad (by decide) h
        | false =>
          have h3' : ¬ lateB L c = true := by rw [h3]; decide
          cases h4 : busyB L nm ob with
          | true =>
            have e : bndE L nm ob c = 9 := by unfold bndE; rw [if_neg (fun h => h hz), if_neg h1', if_neg h2, if_neg h3', if_pos h4]
            rw [e]
            rw [busy_split] at h4
            cases h5 : opnB L nm with
            | some i => exact (pbind_dup1 L u nm ob c w hv hL hz hn h1 g1 g2 h3 i h5).mono fun e w' h => OutB.bad (by decide) h
            | none => exact (pbind_dup2 L u nm ob c w hv hL hz hn h1 g1 g2 h3 h5 (by rw [h5] at h4; simpa using h4)).mono fun e w' h => OutB.bad (by decide) h
          | false =>
            have h4' : ¬ busyB L nm ob = true := by rw [h4]; decide
            have e : bndE L nm ob c = 0 := by unfold bndE; rw [if_neg (fun h => h hz), if_neg h1', if_neg h2, if_neg h3', if_neg h4']
            rw [e]
            rw [busy_split, Bool.or_eq_false_iff] at h4
            have h6 : opnB L nm = none := by simpa using h4.1
            exact (pbind_ok L u nm ob c w hv hL hz hn h1 g1 g2 ho hc h3 h6 h4.2).mono fun e w' ⟨v, q, he, hw, hp, hb⟩ => ⟨v, _, he, hw, fun _ => ⟨q, cut_plc hp (put_ne (vld_of hz) h3 h6), by simp⟩, fun h => absurd rfl h, hb⟩
  · have e : bndE L nm ob c = valB L := by unfold bndE; rw [if_pos hz]
    rw [e]
    exact (pbind_bad L u nm ob c w hv hL _ rfl hz).mono fun e w' h => OutB.bad hz h
end Go.Proofs.Ytpehbfghajlgmaa
