/- The program's Unbind, Rename, Lookup. -/
import Derived.Test.YtpehbfghajlgmaaDgP
namespace Go.Proofs.Ytpehbfghajlgmaa
open Go.RowKit
set_option linter.unusedVariables false
set_option linter.unusedSimpArgs false
theorem asc_end {L : List Bg} (h : AscB L) (i : Nat) (c : Int) : AscB (L.set i ⟨(L.getD i Bg.z).n, (L.getD i Bg.z).r, (L.getD i Bg.z).k, c⟩) := by
  have key : ∀ j, ((L.set i ⟨(L.getD i Bg.z).n, (L.getD i Bg.z).r, (L.getD i Bg.z).k, c⟩).getD j Bg.z).n = (L.getD j Bg.z).n ∧ ((L.set i ⟨(L.getD i Bg.z).n, (L.getD i Bg.z).r, (L.getD i Bg.z).k, c⟩).getD j Bg.z).k = (L.getD j Bg.z).k := by
    intro j
    by_cases hj : j < L.length
    · by_cases he : i = j
      · subst he
        simp [List.getD, hj]
      · simp [List.getD, hj, List.getElem?_set, he]
    · simp [List.getD, List.getElem?_eq_none (Nat.le_of_not_lt hj), List.getElem?_set, show ¬ i = j ∨ ¬ i < L.length by omega]
      by_cases he : i = j
      · subst he; simp [hj]
      · simp [he, List.getElem?_eq_none (Nat.le_of_not_lt hj)]
  intro p q hpq hq
  have h1 := h p q hpq (by simpa using hq)
  unfold befB at *
  rw [(key p).1, (key p).2, (key q).1, (key q).2]
  exact h1
theorem set_keep {L : List Bg} {i : Nat} {c : Int} (hi : i < L.length) : ∀ y ∈ L.set i ⟨(L.getD i Bg.z).n, (L.getD i Bg.z).r, (L.getD i Bg.z).k, c⟩, ∃ x ∈ L, y.n = x.n ∧ y.k = x.k := by
  intro y hy
  rcases List.mem_or_eq_of_mem_set hy with h | rfl
  · exact ⟨y, h, rfl, rfl⟩
  · exact ⟨_, getD_mem hi, rfl, rfl⟩
section
variable (L : List Bg) (u : Value) (nm tn : ByteArray) (c : Int) (w : World)
set_option maxRecDepth 100000 in
set_option maxHeartbeats 2000000 in
theorem punb_bad (hv : RdBg L u w) (hL : L.length ≤ 1000000) (z : Int) (hz : valB L = z) (h0 : z ≠ 0) :
    Calls Try.prog 13 #[u, .string nm, .int .i64 c] w fun e w' => e = .returned (.tuple #[.slice none 0 0, .int .i64 z]) ∧ Below w.heap.size w w' := by
  have HVV := Lib.hid hv
  have hval := pvalb_any L _ w hv hL
  rw [hz] at hval
  obtain ⟨a, cap, rfl⟩ := hv.shape
  clear hv
  go_enter Try.func13, Try.ntmps13
  go_wp2_with (first
    | (go_at_call 20; refine hval.mono ?_; rintro e w1 ⟨rfl, hb1⟩; have B1 := Lib.hid hb1; clear hb1 hval))
  go_ret2
  exact ⟨rfl, B1.out⟩
set_option maxRecDepth 100000 in
set_option maxHeartbeats 2000000 in
theorem punb_name (hv : RdBg L u w) (hL : L.length ≤ 1000000) (hz : valB L = 0) (hn : nm.size ≤ maxLen) (h1 : nameB (byt nm) = false) :
    Calls Try.prog 13 #[u, .string nm, .int .i64 c] w fun e w' => e = .returned (.tuple #[.slice none 0 0, .int .i64 6]) ∧ Below w.heap.size w w' := by
  have HVV := Lib.hid hv
  have hval := pvalb_any L _ w hv hL
  rw [hz] at hval
  have hnm := fun w => isName_any nm w hn
  rw [h1] at hnm
  obtain ⟨a, cap, rfl⟩ := hv.shape
  clear hv
  go_enter Try.func13, Try.ntmps13
  go_wp2_with (first
    | (go_at_call 20; refine hval.mono ?_; rintro e w1 ⟨rfl, hb1⟩; have B1 := Lib.hid hb1; clear hb1 hval)
    | (go_at_call 22; refine (hnm _).mono ?_; rintro e w0 ⟨rfl, rfl⟩))
  go_ret2
  exact ⟨rfl, B1.out⟩
set_option maxRecDepth 100000 in
set_option maxHeartbeats 2000000 in
theorem punb_rng (hv : RdBg L u w) (hL : L.length ≤ 1000000) (hz : valB L = 0) (hn : nm.size ≤ maxLen) (h1 : nameB (byt nm) = true) (h2 : c < 1) :
    Calls Try.prog 13 #[u, .string nm, .int .i64 c] w fun e w' => e = .returned (.tuple #[.slice none 0 0, .int .i64 5]) ∧ Below w.heap.size w w' := by
  have HVV := Lib.hid hv
  have hval := pvalb_any L _ w hv hL
  rw [hz] at hval
  have hnm := fun w => isName_any nm w hn
  rw [h1] at hnm
  obtain ⟨a, cap, rfl⟩ := hv.shape
  clear hv
  go_enter Try.func13, Try.ntmps13
  go_wp2_with (first
    | (go_at_call 20; refine hval.mono ?_; rintro e w1 ⟨rfl, hb1⟩; have B1 := Lib.hid hb1; clear hb1 hval)
    | (go_at_call 22; refine (hnm _).mono ?_; rintro e w0 ⟨rfl, rfl⟩))
  go_ret2
  exact ⟨rfl, B1.out⟩
set_option maxRecDepth 100000 in
set_option maxHeartbeats 2000000 in
theorem punb_late (hv : RdBg L u w) (hL : L.length ≤ 1000000) (hz : valB L = 0) (hn : nm.size ≤ maxLen) (h1 : nameB (byt nm) = true) (g2 : ¬ c < 1) (h3 : lateB L c = true) :
    Calls Try.prog 13 #[u, .string nm, .int .i64 c] w fun e w' => e = .returned (.tuple #[.slice none 0 0, .int .i64 19]) ∧ Below w.heap.size w w' := by
  have HVV := Lib.hid hv
  have hval := pvalb_any L _ w hv hL
  rw [hz] at hval
  have hnm := fun w => isName_any nm w hn
  rw [h1] at hnm
  have HPS := Lib.hid (fun (w' : World) (hb : Below w.heap.size w w') => past_any L _ c w' (HVV.out.below hb) hL)
  rw [h3] at HPS
  obtain ⟨a, cap, rfl⟩ := hv.shape
  clear hv
  go_enter Try.func13, Try.ntmps13
  go_wp2_with (first
    | (go_at_call 20; refine hval.mono ?_; rintro e w1 ⟨rfl, hb1⟩; have B1 := Lib.hid hb1; clear hb1 hval)
    | (go_at_call 22; refine (hnm _).mono ?_; rintro e w0 ⟨rfl, rfl⟩)
    | (go_at_call 23; refine (HPS.out _ B1.out).mono ?_; rintro e w2 ⟨rfl, hb⟩; have B2 := Lib.hid (bgo B1.out hb); clear hb))
  go_ret2
  exact ⟨rfl, B2.out⟩
set_option maxRecDepth 100000 in
set_option maxHeartbeats 2000000 in
theorem punb_unk (hv : RdBg L u w) (hL : L.length ≤ 1000000) (hz : valB L = 0) (hn : nm.size ≤ maxLen) (h1 : nameB (byt nm) = true) (g2 : ¬ c < 1) (h3 : lateB L c = false) (h4 : opnB L nm = none) :
    Calls Try.prog 13 #[u, .string nm, .int .i64 c] w fun e w' => e = .returned (.tuple #[.slice none 0 0, .int .i64 8]) ∧ Below w.heap.size w w' := by
  have HVV := Lib.hid hv
  have hval := pvalb_any L _ w hv hL
  rw [hz] at hval
  have hnm := fun w => isName_any nm w hn
  rw [h1] at hnm
  have HPS := Lib.hid (fun (w' : World) (hb : Below w.heap.size w w') => past_any L _ c w' (HVV.out.below hb) hL)
  rw [h3] at HPS
  have HFO := Lib.hid (fun (w' : World) (hb : Below w.heap.size w w') => fopen_any L _ nm w' (HVV.out.below hb) hL)
  rw [h4, opnI_none] at HFO
  obtain ⟨a, cap, rfl⟩ := hv.shape
  clear hv
  go_enter Try.func13, Try.ntmps13
  go_wp2_with (first
    | (go_at_call 20; refine hval.mono ?_; rintro e w1 ⟨rfl, hb1⟩; have B1 := Lib.hid hb1; clear hb1 hval)
    | (go_at_call 22; refine (hnm _).mono ?_; rintro e w0 ⟨rfl, rfl⟩)
    | (go_at_call 23; refine (HPS.out _ B1.out).mono ?_; rintro e w2 ⟨rfl, hb⟩; have B2 := Lib.hid (bgo B1.out hb); clear hb)
    | (go_at_call 24; refine (HFO.out _ B2.out).mono ?_; rintro e w3 ⟨rfl, hb⟩; have B3 := Lib.hid (bgo B2.out hb); clear hb))
  go_ret2
  exact ⟨rfl, B3.out⟩
set_option maxRecDepth 100000 in
set_option maxHeartbeats 2000000 in
theorem punb_ord (hv : RdBg L u w) (hL : L.length ≤ 1000000) (hz : valB L = 0) (hn : nm.size ≤ maxLen) (h1 : nameB (byt nm) = true) (g2 : ¬ c < 1) (h3 : lateB L c = false) (i : Nat) (h4 : opnB L nm = some i) (hi : i < L.length) (h6 : c ≤ (L.getD i Bg.z).k) :
    Calls Try.prog 13 #[u, .string nm, .int .i64 c] w fun e w' => e = .returned (.tuple #[.slice none 0 0, .int .i64 19]) ∧ Below w.heap.size w w' := by
  have HVV := Lib.hid hv
  have hval := pvalb_any L _ w hv hL
  rw [hz] at hval
  have hnm := fun w => isName_any nm w hn
  rw [h1] at hnm
  have HPS := Lib.hid (fun (w' : World) (hb : Below w.heap.size w w') => past_any L _ c w' (HVV.out.below hb) hL)
  rw [h3] at HPS
  have HFO := Lib.hid (fun (w' : World) (hb : Below w.heap.size w w') => fopen_any L _ nm w' (HVV.out.below hb) hL)
  rw [h4, opnI_some] at HFO
  have hi0 : (0 : Int) ≤ (i : Int) := by omega
  have hi1 : ¬ (i : Int) < 0 := by omega
  have hi2 : (i : Int) < (L.length : Int) := by omega
  have HI := Lib.hid hi
  obtain ⟨a, cap, rfl⟩ := hv.shape
  obtain ⟨f0, hf0⟩ : ∃ f0, (L.getD i Bg.z).k = f0 := ⟨_, rfl⟩
  have HF0 := Lib.hid hf0
  rw [hf0] at h6
  have HAT : Hid (∀ w2, RdBg L (.slice a L.length cap) w2 → ∃ b off, a = some ⟨b, off, none⟩ ∧ w2.cell? ⟨b, off + i * 4 + 2, none⟩ = some (.int .i64 f0)) := Lib.hid (fun w2 h2 => by
    obtain ⟨b, off, hbo, -, -, -, d2, -⟩ := h2.at_ (j := i) hi
    rw [hf0] at d2
    exact ⟨b, off, hbo, d2⟩)
  obtain ⟨b, off, rfl, c2⟩ := HAT.out w HVV.out
  have HCL : Hid (∀ w2, Below w.heap.size w w2 → w2.cell? ⟨b, off + i * 4 + 2, none⟩ = some (.int .i64 f0)) := Lib.hid (fun w2 h2 => by
    obtain ⟨b', off', hbo, d2⟩ := HAT.out w2 (HVV.out.below h2)
    simp only [Option.some.injEq, Addr.mk.injEq, and_true] at hbo
    obtain ⟨rfl, rfl⟩ := hbo
    exact d2)
  clear c2 HAT hf0
  clear hv
  go_enter Try.func13, Try.ntmps13
  go_wp2_with (first
    | (go_at_call 20; refine hval.mono ?_; rintro e w1 ⟨rfl, hb1⟩; have B1 := Lib.hid hb1; clear hb1 hval)
    | (go_at_call 22; refine (hnm _).mono ?_; rintro e w0 ⟨rfl, rfl⟩)
    | (go_at_call 23; refine (HPS.out _ B1.out).mono ?_; rintro e w2 ⟨rfl, hb⟩; have B2 := Lib.hid (bgo B1.out hb); clear hb)
    | (go_at_call 24; refine (HFO.out _ B2.out).mono ?_; rintro e w3 ⟨rfl, hb⟩; have B3 := Lib.hid (bgo B2.out hb); have c2 := HCL.out _ B3.out; clear hb))
  go_ret2
  exact ⟨rfl, B3.out⟩
set_option maxRecDepth 100000 in
set_option maxHeartbeats 2000000 in
theorem punb_ok (hv : RdBg L u w) (hL : L.length ≤ 1000000) (hz : valB L = 0) (hn : nm.size ≤ maxLen) (h1 : nameB (byt nm) = true) (g2 : ¬ c < 1) (h3 : lateB L c = false) (i : Nat) (h4 : opnB L nm = some i) (hi : i < L.length) (h6 : ¬ c ≤ (L.getD i Bg.z).k) (hc : c ≤ 9223372036854775807) :
    Calls Try.prog 13 #[u, .string nm, .int .i64 c] w fun e w' => UnbPost L i c w e w' := by
  have HVV := Lib.hid hv
  have hval := pvalb_any L _ w hv hL
  rw [hz] at hval
  have hnm := fun w => isName_any nm w hn
  rw [h1] at hnm
  have HPS := Lib.hid (fun (w' : World) (hb : Below w.heap.size w w') => past_any L _ c w' (HVV.out.below hb) hL)
  rw [h3] at HPS
  have HFO := Lib.hid (fun (w' : World) (hb : Below w.heap.size w w') => fopen_any L _ nm w' (HVV.out.below hb) hL)
  rw [h4, opnI_some] at HFO
  have hi0 : (0 : Int) ≤ (i : Int) := by omega
  have hi1 : ¬ (i : Int) < 0 := by omega
  have hi2 : (i : Int) < (L.length : Int) := by omega
  have HI := Lib.hid hi
  have HEN := Lib.hid (fun (w' : World) (hb : Below w.heap.size w w') => end_any L _ i c w' (HVV.out.below hb) hL hi ⟨by omega, hc⟩)
  obtain ⟨a, cap, rfl⟩ := hv.shape
  obtain ⟨f0, hf0⟩ : ∃ f0, (L.getD i Bg.z).k = f0 := ⟨_, rfl⟩
  have HF0 := Lib.hid hf0
  rw [hf0] at h6
  have HAT : Hid (∀ w2, RdBg L (.slice a L.length cap) w2 → ∃ b off, a = some ⟨b, off, none⟩ ∧ w2.cell? ⟨b, off + i * 4 + 2, none⟩ = some (.int .i64 f0)) := Lib.hid (fun w2 h2 => by
    obtain ⟨b, off, hbo, -, -, -, d2, -⟩ := h2.at_ (j := i) hi
    rw [hf0] at d2
    exact ⟨b, off, hbo, d2⟩)
  obtain ⟨b, off, rfl, c2⟩ := HAT.out w HVV.out
  have HCL : Hid (∀ w2, Below w.heap.size w w2 → w2.cell? ⟨b, off + i * 4 + 2, none⟩ = some (.int .i64 f0)) := Lib.hid (fun w2 h2 => by
    obtain ⟨b', off', hbo, d2⟩ := HAT.out w2 (HVV.out.below h2)
    simp only [Option.some.injEq, Addr.mk.injEq, and_true] at hbo
    obtain ⟨rfl, rfl⟩ := hbo
    exact d2)
  clear c2 HAT hf0
  clear hv
  go_enter Try.func13, Try.ntmps13
  go_wp2_with (first
    | (go_at_call 20; refine hval.mono ?_; rintro e w1 ⟨rfl, hb1⟩; have B1 := Lib.hid hb1; clear hb1 hval)
    | (go_at_call 22; refine (hnm _).mono ?_; rintro e w0 ⟨rfl, rfl⟩)
    | (go_at_call 23; refine (HPS.out _ B1.out).mono ?_; rintro e w2 ⟨rfl, hb⟩; have B2 := Lib.hid (bgo B1.out hb); clear hb)
    | (go_at_call 24; refine (HFO.out _ B2.out).mono ?_; rintro e w3 ⟨rfl, hb⟩; have B3 := Lib.hid (bgo B2.out hb); have c2 := HCL.out _ B3.out; clear hb)
    | (go_at_call 31; refine (HEN.out _ B3.out).mono ?_; rintro e w5 ⟨v5, rfl, ho, hb⟩; have HO := Lib.hid ho; have B5 := Lib.hid (bgo B3.out hb); clear ho hb))
  go_ret2
  exact ⟨_, rfl, HO.out.mono B3.out.size, B5.out⟩
set_option maxRecDepth 100000 in
set_option maxHeartbeats 2000000 in
theorem pren_bad (hv : RdBg L u w) (hL : L.length ≤ 1000000) (z : Int) (hz : valB L = z) (h0 : z ≠ 0) :
    Calls Try.prog 15 #[u, .string nm, .string tn, .int .i64 c] w fun e w' => e = .returned (.tuple #[.slice none 0 0, .int .i64 z]) ∧ Below w.heap.size w w' := by
  have HVV := Lib.hid hv
  have hval := pvalb_any L _ w hv hL
  rw [hz] at hval
  obtain ⟨a, cap, rfl⟩ := hv.shape
  clear hv
  go_enter Try.func15, Try.ntmps15
  go_wp2_with (first
    | (go_at_call 20; refine hval.mono ?_; rintro e w1 ⟨rfl, hb1⟩; have B1 := Lib.hid hb1; clear hb1 hval))
  go_ret2
  exact ⟨rfl, B1.out⟩
set_option maxRecDepth 100000 in
set_option maxHeartbeats 2000000 in
theorem pren_name (hv : RdBg L u w) (hL : L.length ≤ 1000000) (hz : valB L = 0) (hn : nm.size ≤ maxLen) (ht : tn.size ≤ maxLen) (h1 : nameB (byt nm) = false) :
    Calls Try.prog 15 #[u, .string nm, .string tn, .int .i64 c] w fun e w' => e = .returned (.tuple #[.slice none 0 0, .int .i64 6]) ∧ Below w.heap.size w w' := by
  have HVV := Lib.hid hv
  have hval := pvalb_any L _ w hv hL
  rw [hz] at hval
  have hnm := fun w => isName_any nm w hn
  rw [h1] at hnm
  obtain ⟨a, cap, rfl⟩ := hv.shape
  clear hv
  go_enter Try.func15, Try.ntmps15
  go_wp2_with (first
    | (go_at_call 20; refine hval.mono ?_; rintro e w1 ⟨rfl, hb1⟩; have B1 := Lib.hid hb1; clear hb1 hval)
    | (go_at_call 22; refine (hnm _).mono ?_; rintro e w0 ⟨rfl, rfl⟩))
  go_ret2
  exact ⟨rfl, B1.out⟩
set_option maxRecDepth 100000 in
set_option maxHeartbeats 2000000 in
theorem pren_name2 (hv : RdBg L u w) (hL : L.length ≤ 1000000) (hz : valB L = 0) (hn : nm.size ≤ maxLen) (ht : tn.size ≤ maxLen) (h1 : nameB (byt nm) = true) (h1t : nameB (byt tn) = false) :
    Calls Try.prog 15 #[u, .string nm, .string tn, .int .i64 c] w fun e w' => e = .returned (.tuple #[.slice none 0 0, .int .i64 6]) ∧ Below w.heap.size w w' := by
  have HVV := Lib.hid hv
  have hval := pvalb_any L _ w hv hL
  rw [hz] at hval
  have hnm := fun w => isName_any nm w hn
  rw [h1] at hnm
  have hnt := fun w => isName_any tn w ht
  rw [h1t] at hnt
  obtain ⟨a, cap, rfl⟩ := hv.shape
  clear hv
  go_enter Try.func15, Try.ntmps15
  go_wp2_with (first
    | (go_at_call 20; refine hval.mono ?_; rintro e w1 ⟨rfl, hb1⟩; have B1 := Lib.hid hb1; clear hb1 hval)
    | (go_at_call 22; first | ((with_reducible refine (hnm _).mono ?_); rintro e w0 ⟨rfl, rfl⟩) | ((with_reducible refine (hnt _).mono ?_); rintro e w0 ⟨rfl, rfl⟩)))
  go_ret2
  exact ⟨rfl, B1.out⟩
set_option maxRecDepth 100000 in
set_option maxHeartbeats 2000000 in
theorem pren_rng (hv : RdBg L u w) (hL : L.length ≤ 1000000) (hz : valB L = 0) (hn : nm.size ≤ maxLen) (ht : tn.size ≤ maxLen) (h1 : nameB (byt nm) = true) (h1t : nameB (byt tn) = true) (h2 : c < 1) :
    Calls Try.prog 15 #[u, .string nm, .string tn, .int .i64 c] w fun e w' => e = .returned (.tuple #[.slice none 0 0, .int .i64 5]) ∧ Below w.heap.size w w' := by
  have HVV := Lib.hid hv
  have hval := pvalb_any L _ w hv hL
  rw [hz] at hval
  have hnm := fun w => isName_any nm w hn
  rw [h1] at hnm
  have hnt := fun w => isName_any tn w ht
  rw [h1t] at hnt
  obtain ⟨a, cap, rfl⟩ := hv.shape
  clear hv
  go_enter Try.func15, Try.ntmps15
  go_wp2_with (first
    | (go_at_call 20; refine hval.mono ?_; rintro e w1 ⟨rfl, hb1⟩; have B1 := Lib.hid hb1; clear hb1 hval)
    | (go_at_call 22; first | ((with_reducible refine (hnm _).mono ?_); rintro e w0 ⟨rfl, rfl⟩) | ((with_reducible refine (hnt _).mono ?_); rintro e w0 ⟨rfl, rfl⟩)))
  go_ret2
  exact ⟨rfl, B1.out⟩
set_option maxRecDepth 100000 in
set_option maxHeartbeats 2000000 in
theorem pren_late (hv : RdBg L u w) (hL : L.length ≤ 1000000) (hz : valB L = 0) (hn : nm.size ≤ maxLen) (ht : tn.size ≤ maxLen) (h1 : nameB (byt nm) = true) (h1t : nameB (byt tn) = true) (g2 : ¬ c < 1) (h3 : lateB L c = true) :
    Calls Try.prog 15 #[u, .string nm, .string tn, .int .i64 c] w fun e w' => e = .returned (.tuple #[.slice none 0 0, .int .i64 19]) ∧ Below w.heap.size w w' := by
  have HVV := Lib.hid hv
  have hval := pvalb_any L _ w hv hL
  rw [hz] at hval
  have hnm := fun w => isName_any nm w hn
  rw [h1] at hnm
  have hnt := fun w => isName_any tn w ht
  rw [h1t] at hnt
  have HPS := Lib.hid (fun (w' : World) (hb : Below w.heap.size w w') => past_any L _ c w' (HVV.out.below hb) hL)
  rw [h3] at HPS
  obtain ⟨a, cap, rfl⟩ := hv.shape
  clear hv
  go_enter Try.func15, Try.ntmps15
  go_wp2_with (first
    | (go_at_call 20; refine hval.mono ?_; rintro e w1 ⟨rfl, hb1⟩; have B1 := Lib.hid hb1; clear hb1 hval)
    | (go_at_call 22; first | ((with_reducible refine (hnm _).mono ?_); rintro e w0 ⟨rfl, rfl⟩) | ((with_reducible refine (hnt _).mono ?_); rintro e w0 ⟨rfl, rfl⟩))
    | (go_at_call 23; refine (HPS.out _ B1.out).mono ?_; rintro e w2 ⟨rfl, hb⟩; have B2 := Lib.hid (bgo B1.out hb); clear hb))
  go_ret2
  exact ⟨rfl, B2.out⟩
set_option maxRecDepth 100000 in
set_option maxHeartbeats 2000000 in
theorem pren_unk (hv : RdBg L u w) (hL : L.length ≤ 1000000) (hz : valB L = 0) (hn : nm.size ≤ maxLen) (ht : tn.size ≤ maxLen) (h1 : nameB (byt nm) = true) (h1t : nameB (byt tn) = true) (g2 : ¬ c < 1) (h3 : lateB L c = false) (h4 : opnB L nm = none) :
    Calls Try.prog 15 #[u, .string nm, .string tn, .int .i64 c] w fun e w' => e = .returned (.tuple #[.slice none 0 0, .int .i64 8]) ∧ Below w.heap.size w w' := by
  have HVV := Lib.hid hv
  have hval := pvalb_any L _ w hv hL
  rw [hz] at hval
  have hnm := fun w => isName_any nm w hn
  rw [h1] at hnm
  have hnt := fun w => isName_any tn w ht
  rw [h1t] at hnt
  have HPS := Lib.hid (fun (w' : World) (hb : Below w.heap.size w w') => past_any L _ c w' (HVV.out.below hb) hL)
  rw [h3] at HPS
  have HFO := Lib.hid (fun (w' : World) (hb : Below w.heap.size w w') => fopen_any L _ nm w' (HVV.out.below hb) hL)
  rw [h4, opnI_none] at HFO
  obtain ⟨a, cap, rfl⟩ := hv.shape
  clear hv
  go_enter Try.func15, Try.ntmps15
  go_wp2_with (first
    | (go_at_call 20; refine hval.mono ?_; rintro e w1 ⟨rfl, hb1⟩; have B1 := Lib.hid hb1; clear hb1 hval)
    | (go_at_call 22; first | ((with_reducible refine (hnm _).mono ?_); rintro e w0 ⟨rfl, rfl⟩) | ((with_reducible refine (hnt _).mono ?_); rintro e w0 ⟨rfl, rfl⟩))
    | (go_at_call 23; refine (HPS.out _ B1.out).mono ?_; rintro e w2 ⟨rfl, hb⟩; have B2 := Lib.hid (bgo B1.out hb); clear hb)
    | (go_at_call 24; refine (HFO.out _ B2.out).mono ?_; rintro e w3 ⟨rfl, hb⟩; have B3 := Lib.hid (bgo B2.out hb); clear hb))
  go_ret2
  exact ⟨rfl, B3.out⟩
set_option maxRecDepth 100000 in
set_option maxHeartbeats 2000000 in
theorem pren_dup (hv : RdBg L u w) (hL : L.length ≤ 1000000) (hz : valB L = 0) (hn : nm.size ≤ maxLen) (ht : tn.size ≤ maxLen) (h1 : nameB (byt nm) = true) (h1t : nameB (byt tn) = true) (g2 : ¬ c < 1) (h3 : lateB L c = false) (i : Nat) (h4 : opnB L nm = some i) (hi : i < L.length) (j : Nat) (h5 : opnB L tn = some j) :
    Calls Try.prog 15 #[u, .string nm, .string tn, .int .i64 c] w fun e w' => e = .returned (.tuple #[.slice none 0 0, .int .i64 9]) ∧ Below w.heap.size w w' := by
  have HVV := Lib.hid hv
  have hval := pvalb_any L _ w hv hL
  rw [hz] at hval
  have hnm := fun w => isName_any nm w hn
  rw [h1] at hnm
  have hnt := fun w => isName_any tn w ht
  rw [h1t] at hnt
  have HPS := Lib.hid (fun (w' : World) (hb : Below w.heap.size w w') => past_any L _ c w' (HVV.out.below hb) hL)
  rw [h3] at HPS
  have HFO := Lib.hid (fun (w' : World) (hb : Below w.heap.size w w') => fopen_any L _ nm w' (HVV.out.below hb) hL)
  rw [h4, opnI_some] at HFO
  have HFT := Lib.hid (fun (w' : World) (hb : Below w.heap.size w w') => fopen_any L _ tn w' (HVV.out.below hb) hL)
  rw [h5, opnI_some] at HFT
  have hi0 : (0 : Int) ≤ (i : Int) := by omega
  have hi1 : ¬ (i : Int) < 0 := by omega
  have hi2 : (i : Int) < (L.length : Int) := by omega
  have HI := Lib.hid hi
  have hj0 : (0 : Int) ≤ (j : Int) := by omega
  obtain ⟨a, cap, rfl⟩ := hv.shape
  clear hv
  go_enter Try.func15, Try.ntmps15
  go_wp2_with (first
    | (go_at_call 20; refine hval.mono ?_; rintro e w1 ⟨rfl, hb1⟩; have B1 := Lib.hid hb1; clear hb1 hval)
    | (go_at_call 22; first | ((with_reducible refine (hnm _).mono ?_); rintro e w0 ⟨rfl, rfl⟩) | ((with_reducible refine (hnt _).mono ?_); rintro e w0 ⟨rfl, rfl⟩))
    | (go_at_call 23; refine (HPS.out _ B1.out).mono ?_; rintro e w2 ⟨rfl, hb⟩; have B2 := Lib.hid (bgo B1.out hb); clear hb)
    | (go_at_call 24; first | ((with_reducible refine (HFO.out _ B2.out).mono ?_); rintro e w3 ⟨rfl, hb⟩; have B3 := Lib.hid (bgo B2.out hb); clear hb) | ((with_reducible refine (HFT.out _ B3.out).mono ?_); rintro e w4 ⟨rfl, hb⟩; have B4 := Lib.hid (bgo B3.out hb); clear hb)))
  go_ret2
  exact ⟨rfl, B4.out⟩
set_option maxRecDepth 100000 in
set_option maxHeartbeats 2000000 in
theorem pren_ord (hv : RdBg L u w) (hL : L.length ≤ 1000000) (hz : valB L = 0) (hn : nm.size ≤ maxLen) (ht : tn.size ≤ maxLen) (h1 : nameB (byt nm) = true) (h1t : nameB (byt tn) = true) (g2 : ¬ c < 1) (h3 : lateB L c = false) (i : Nat) (h4 : opnB L nm = some i) (hi : i < L.length) (h5 : opnB L tn = none) (h6 : c ≤ (L.getD i Bg.z).k) :
    Calls Try.prog 15 #[u, .string nm, .string tn, .int .i64 c] w fun e w' => e = .returned (.tuple #[.slice none 0 0, .int .i64 19]) ∧ Below w.heap.size w w' := by
  have HVV := Lib.hid hv
  have hval := pvalb_any L _ w hv hL
  rw [hz] at hval
  have hnm := fun w => isName_any nm w hn
  rw [h1] at hnm
  have hnt := fun w => isName_any tn w ht
  rw [h1t] at hnt
  have HPS := Lib.hid (fun (w' : World) (hb : Below w.heap.size w w') => past_any L _ c w' (HVV.out.below hb) hL)
  rw [h3] at HPS
  have HFO := Lib.hid (fun (w' : World) (hb : Below w.heap.size w w') => fopen_any L _ nm w' (HVV.out.below hb) hL)
  rw [h4, opnI_some] at HFO
  have HFT := Lib.hid (fun (w' : World) (hb : Below w.heap.size w w') => fopen_any L _ tn w' (HVV.out.below hb) hL)
  rw [h5, opnI_none] at HFT
  have hi0 : (0 : Int) ≤ (i : Int) := by omega
  have hi1 : ¬ (i : Int) < 0 := by omega
  have hi2 : (i : Int) < (L.length : Int) := by omega
  have HI := Lib.hid hi
  obtain ⟨a, cap, rfl⟩ := hv.shape
  obtain ⟨f0, hf0⟩ : ∃ f0, (L.getD i Bg.z).k = f0 := ⟨_, rfl⟩
  have HF0 := Lib.hid hf0
  rw [hf0] at h6
  have HAT : Hid (∀ w2, RdBg L (.slice a L.length cap) w2 → ∃ b off, a = some ⟨b, off, none⟩ ∧ w2.cell? ⟨b, off + i * 4 + 2, none⟩ = some (.int .i64 f0)) := Lib.hid (fun w2 h2 => by
    obtain ⟨b, off, hbo, -, -, -, d2, -⟩ := h2.at_ (j := i) hi
    rw [hf0] at d2
    exact ⟨b, off, hbo, d2⟩)
  obtain ⟨b, off, rfl, c2⟩ := HAT.out w HVV.out
  have HCL : Hid (∀ w2, Below w.heap.size w w2 → w2.cell? ⟨b, off + i * 4 + 2, none⟩ = some (.int .i64 f0)) := Lib.hid (fun w2 h2 => by
    obtain ⟨b', off', hbo, d2⟩ := HAT.out w2 (HVV.out.below h2)
    simp only [Option.some.injEq, Addr.mk.injEq, and_true] at hbo
    obtain ⟨rfl, rfl⟩ := hbo
    exact d2)
  clear c2 HAT hf0
  clear hv
  go_enter Try.func15, Try.ntmps15
  go_wp2_with (first
    | (go_at_call 20; refine hval.mono ?_; rintro e w1 ⟨rfl, hb1⟩; have B1 := Lib.hid hb1; clear hb1 hval)
    | (go_at_call 22; first | ((with_reducible refine (hnm _).mono ?_); rintro e w0 ⟨rfl, rfl⟩) | ((with_reducible refine (hnt _).mono ?_); rintro e w0 ⟨rfl, rfl⟩))
    | (go_at_call 23; refine (HPS.out _ B1.out).mono ?_; rintro e w2 ⟨rfl, hb⟩; have B2 := Lib.hid (bgo B1.out hb); clear hb)
    | (go_at_call 24; first | ((with_reducible refine (HFO.out _ B2.out).mono ?_); rintro e w3 ⟨rfl, hb⟩; have B3 := Lib.hid (bgo B2.out hb); clear hb) | ((with_reducible refine (HFT.out _ B3.out).mono ?_); rintro e w4 ⟨rfl, hb⟩; have B4 := Lib.hid (bgo B3.out hb); have c2 := HCL.out _ B4.out; clear hb)))
  go_ret2
  exact ⟨rfl, B4.out⟩
set_option maxRecDepth 100000 in
set_option maxHeartbeats 4000000 in
theorem pren_ok (hv : RdBg L u w) (hL : L.length ≤ 1000000) (hz : valB L = 0) (hn : nm.size ≤ maxLen) (ht : tn.size ≤ maxLen) (h1 : nameB (byt nm) = true) (h1t : nameB (byt tn) = true) (g2 : ¬ c < 1) (h3 : lateB L c = false) (i : Nat) (h4 : opnB L nm = some i) (hi : i < L.length) (h5 : opnB L tn = none) (h6 : ¬ c ≤ (L.getD i Bg.z).k) (hc : c ≤ 9223372036854775807) :
    Calls Try.prog 15 #[u, .string nm, .string tn, .int .i64 c] w fun e w' => ∃ v p, e = .returned (.tuple #[v, .int .i64 0]) ∧ OwnBg w.heap.size ((L.set i ⟨(L.getD i Bg.z).n, (L.getD i Bg.z).r, (L.getD i Bg.z).k, c⟩).take p ++ [⟨tn, (L.getD i Bg.z).r, c, 0⟩] ++ (L.set i ⟨(L.getD i Bg.z).n, (L.getD i Bg.z).r, (L.getD i Bg.z).k, c⟩).drop p) v w' ∧ CutB (L.set i ⟨(L.getD i Bg.z).n, (L.getD i Bg.z).r, (L.getD i Bg.z).k, c⟩) ⟨tn, (L.getD i Bg.z).r, c, 0⟩ p p ∧ Below w.heap.size w w' := by
  have HVV := Lib.hid hv
  have hval := pvalb_any L _ w hv hL
  rw [hz] at hval
  have hnm := fun w => isName_any nm w hn
  rw [h1] at hnm
  have hnt := fun w => isName_any tn w ht
  rw [h1t] at hnt
  have HPS := Lib.hid (fun (w' : World) (hb : Below w.heap.size w w') => past_any L _ c w' (HVV.out.below hb) hL)
  rw [h3] at HPS
  have HFO := Lib.hid (fun (w' : World) (hb : Below w.heap.size w w') => fopen_any L _ nm w' (HVV.out.below hb) hL)
  rw [h4, opnI_some] at HFO
  have HFT := Lib.hid (fun (w' : World) (hb : Below w.heap.size w w') => fopen_any L _ tn w' (HVV.out.below hb) hL)
  rw [h5, opnI_none] at HFT
  have hi0 : (0 : Int) ≤ (i : Int) := by omega
  have hi1 : ¬ (i : Int) < 0 := by omega
  have hi2 : (i : Int) < (L.length : Int) := by omega
  have HI := Lib.hid hi
  have HEN := Lib.hid (fun (w' : World) (hb : Below w.heap.size w w') => end_any L _ i c w' (HVV.out.below hb) hL hi ⟨by omega, hc⟩)
  have HIN := Lib.hid (fun (v' : Value) (w' : World) (hr : RdBg (L.set i ⟨(L.getD i Bg.z).n, (L.getD i Bg.z).r, (L.getD i Bg.z).k, c⟩) v' w') => insert_any (L.set i ⟨(L.getD i Bg.z).n, (L.getD i Bg.z).r, (L.getD i Bg.z).k, c⟩) tn (L.getD i Bg.z).r c 0 v' w' hr (asc_end (asc_vld (vld_of hz)) i c) (by rw [List.length_set]; exact hL) ⟨ht, (hv.1.at_ i).2.1, ⟨by show (-9223372036854775808 : Int) ≤ c; omega, hc⟩, by show (-9223372036854775808 : Int) ≤ 0 ∧ (0 : Int) ≤ 9223372036854775807; decide⟩)
  obtain ⟨a, cap, rfl⟩ := hv.shape
  obtain ⟨f0, hf0⟩ : ∃ f0, (L.getD i Bg.z).k = f0 := ⟨_, rfl⟩
  have HF0 := Lib.hid hf0
  obtain ⟨r0, hr0⟩ : ∃ r0, (L.getD i Bg.z).r = r0 := ⟨_, rfl⟩
  have HR0 := Lib.hid hr0
  rw [hf0] at h6
  have HAT : Hid (∀ w2, RdBg L (.slice a L.length cap) w2 → ∃ b off, a = some ⟨b, off, none⟩ ∧ (w2.cell? ⟨b, off + i * 4 + 2, none⟩ = some (.int .i64 f0) ∧ w2.cell? ⟨b, off + i * 4 + 1, none⟩ = some (.int .i64 r0))) := Lib.hid (fun w2 h2 => by
    obtain ⟨b, off, hbo, -, -, d1, d2, -⟩ := h2.at_ (j := i) hi
    rw [hf0] at d2
    rw [hr0] at d1
    exact ⟨b, off, hbo, d2, d1⟩)
  obtain ⟨b, off, rfl, c2⟩ := HAT.out w HVV.out
  have HCL : Hid (∀ w2, Below w.heap.size w w2 → (w2.cell? ⟨b, off + i * 4 + 2, none⟩ = some (.int .i64 f0) ∧ w2.cell? ⟨b, off + i * 4 + 1, none⟩ = some (.int .i64 r0))) := Lib.hid (fun w2 h2 => by
    obtain ⟨b', off', hbo, d2⟩ := HAT.out w2 (HVV.out.below h2)
    simp only [Option.some.injEq, Addr.mk.injEq, and_true] at hbo
    obtain ⟨rfl, rfl⟩ := hbo
    exact d2)
  clear c2 HAT hf0
  rw [hr0] at HEN HIN
  clear hr0
  clear hv
  rw [HR0.out]
  go_enter Try.func15, Try.ntmps15
  go_upto_region 17 with (first
    | (go_at_call 20; refine hval.mono ?_; rintro e w1 ⟨rfl, hb1⟩; have B1 := Lib.hid hb1; clear hb1 hval)
    | (go_at_call 22; first | ((with_reducible refine (hnm _).mono ?_); rintro e w0 ⟨rfl, rfl⟩) | ((with_reducible refine (hnt _).mono ?_); rintro e w0 ⟨rfl, rfl⟩))
    | (go_at_call 23; refine (HPS.out _ B1.out).mono ?_; rintro e w2 ⟨rfl, hb⟩; have B2 := Lib.hid (bgo B1.out hb); clear hb)
    | (go_at_call 24; first | ((with_reducible refine (HFO.out _ B2.out).mono ?_); rintro e w3 ⟨rfl, hb⟩; have B3 := Lib.hid (bgo B2.out hb); clear hb) | ((with_reducible refine (HFT.out _ B3.out).mono ?_); rintro e w4 ⟨rfl, hb⟩; have B4 := Lib.hid (bgo B3.out hb); obtain ⟨c2, c1⟩ := HCL.out _ B4.out; clear hb)))
  go_region_law (go_simp; first
    | (go_at_call 31; refine (HEN.out _ B4.out.drew).mono ?_; rintro e w5 ⟨v5, rfl, ho, hb⟩; have HO := Lib.hid ho; have B5 := Lib.hid (bgo B4.out.drew hb); obtain ⟨c2, c1⟩ := HCL.out _ B5.out; clear hb ho)
    | (go_at_call 26; refine (HIN.out _ _ HO.out.rd).mono ?_; rintro e w6 ⟨v6, p, rfl, ho, hq, hb⟩; have HO6 := Lib.hid ho; have HC := Lib.hid hq; have B6 := Lib.hid (bgo B5.out hb); clear ho hq hb))
  all_goals
    go_wp2
    go_ret2
    exact ⟨_, p, rfl, HO6.out.mono B5.out.size, HC.out, by first | exact B6.out | exact B6.out.drew⟩
end
theorem punb_any (L : List Bg) (u : Value) (nm : ByteArray) (c : Int) (w : World) (hv : RdBg L u w) (hL : L.length ≤ 1000000) (hn : nm.size ≤ maxLen) (hc : c ≤ 9223372036854775807) :
    Calls Try.prog 13 #[u, .string nm, .int .i64 c] w fun e w' => OutB (unbE L nm c) (EndB L nm c) w e w' := by
  by_cases hz : valB L = 0
  · cases h1 : nameB (byt nm) with
    | false =>
      have e : unbE L nm c = 6 := by unfold unbE; rw [if_neg (fun h => h hz), if_pos h1]
      rw [e]
      exact (punb_name L u nm c w hv hL hz hn h1).mono fun e w' h => OutB.bad (by decide) h
    | true =>
      have h1' : ¬ nameB (byt nm) = false := by rw [h1]; decide
      by_cases g2 : c < 1
      · have e : unbE L nm c = 5 := by unfold unbE; rw [if_neg (fun h => h hz), if_neg h1', if_pos g2]
        rw [e]
        exact (punb_rng L u nm c w hv hL hz hn h1 g2).mono fun e w' h => OutB.bad (by decide) h
      · cases h3 : lateB L c with
        | true =>
          have e : unbE L nm c = 19 := by unfold unbE; rw [if_neg (fun h => h hz), if_neg h1', if_neg g2, if_pos h3]
          rw [e]
          exact (punb_late L u nm c w hv hL hz hn h1 g2 h3).mono fun e w' h => OutB.bad (by decide) h
        | false =>
          have h3' : ¬ lateB L c = true := by rw [h3]; decide
          cases h4 : opnB L nm with
          | none =>
            have e : unbE L nm c = 8 := by unfold unbE; rw [if_neg (fun h => h hz), if_neg h1', if_neg g2, if_neg h3', h4]
            rw [e]
            exact (punb_unk L u nm c w hv hL hz hn h1 g2 h3 h4).mono fun e w' h => OutB.bad (by decide) h
          | some i =>
            have hi := opn_lt h4
            by_cases h6 : c ≤ (L.getD i Bg.z).k
            · have e : unbE L nm c = 19 := by unfold unbE; rw [if_neg (fun h => h hz), if_neg h1', if_neg g2, if_neg h3', h4]; exact if_pos h6
              rw [e]
              exact (punb_ord L u nm c w hv hL hz hn h1 g2 h3 i h4 hi h6).mono fun e w' h => OutB.bad (by decide) h
            · have e : unbE L nm c = 0 := by unfold unbE; rw [if_neg (fun h => h hz), if_neg h1', if_neg g2, if_neg h3', h4]; exact if_neg h6
              rw [e]
              exact (punb_ok L u nm c w hv hL hz hn h1 g2 h3 i h4 hi h6 hc).mono fun e w' ⟨v, he, hw, hb⟩ => ⟨v, _, he, hw, fun _ => ⟨i, h4, rfl⟩, fun h => absurd rfl h, hb⟩
  · have e : unbE L nm c = valB L := by unfold unbE; rw [if_pos hz]
    rw [e]
    exact (punb_bad L u nm c w hv hL _ rfl hz).mono fun e w' h => OutB.bad hz h
theorem pren_any (L : List Bg) (u : Value) (nm tn : ByteArray) (c : Int) (w : World) (hv : RdBg L u w) (hL : L.length ≤ 1000000) (hn : nm.size ≤ maxLen) (ht : tn.size ≤ maxLen) (hc : c ≤ 9223372036854775807) :
    Calls Try.prog 15 #[u, .string nm, .string tn, .int .i64 c] w fun e w' => OutB (renE L nm tn c) (MovB L nm tn c) w e w' := by
  by_cases hz : valB L = 0
  · cases h1 : nameB (byt nm) with
    | false =>
      have e : renE L nm tn c = 6 := by unfold renE; rw [if_neg (fun h => h hz), if_pos h1]
      rw [e]
      exact (pren_name L u nm tn c w hv hL hz hn ht h1).mono fun e w' h => OutB.bad (by decide) h
    | true =>
      have h1' : ¬ nameB (byt nm) = false := by rw [h1]; decide
      cases h2 : nameB (byt tn) with
      | false =>
        have e : renE L nm tn c = 6 := by unfold renE; rw [if_neg (fun h => h hz), if_neg h1', if_pos h2]
        rw [e]
        exact (pren_name2 L u nm tn c w hv hL hz hn ht h1 h2).mono fun e w' h => OutB.bad (by decide) h
      | true =>
        have h2' : ¬ nameB (byt tn) = false := by rw [h2]; decide
        by_cases g2 : c < 1
        · have e : renE L nm tn c = 5 := by unfold renE; rw [if_neg (fun h => h hz), if_neg h1', if_neg h2', if_pos g2]
          rw [e]
          exact (pren_rng L u nm tn c w hv hL hz hn ht h1 h2 g2).mono fun e w' h => OutB.bad (by decide) h
        · cases h3 : lateB L c with
          | true =>
            have e : renE L nm tn c = 19 := by unfold renE; rw [if_neg (fun h => h hz), if_neg h1', if_neg h2', if_neg g2, if_pos h3]
            rw [e]
            exact (pren_late L u nm tn c w hv hL hz hn ht h1 h2 g2 h3).mono fun e w' h => OutB.bad (by decide) h
          | false =>
            have h3' : ¬ lateB L c = true := by rw [h3]; decide
            cases h4 : opnB L nm with
            | none =>
              have e : renE L nm tn c = 8 := by unfold renE; rw [if_neg (fun h => h hz), if_neg h1', if_neg h2', if_neg g2, if_neg h3', h4]
              rw [e]
              exact (pren_unk L u nm tn c w hv hL hz hn ht h1 h2 g2 h3 h4).mono fun e w' h => OutB.bad (by decide) h
            | some i =>
              have hi := opn_lt h4
              cases h5 : opnB L tn with
              | some j =>
                have e : renE L nm tn c = 9 := by unfold renE; rw [if_neg (fun h => h hz), if_neg h1', if_neg h2', if_neg g2, if_neg h3', h4, h5]; rfl
                rw [e]
                exact (pren_dup L u nm tn c w hv hL hz hn ht h1 h2 g2 h3 i h4 hi j h5).mono fun e w' h => OutB.bad (by decide) h
              | none =>
                by_cases h6 : c ≤ (L.getD i Bg.z).k
                · have e : renE L nm tn c = 19 := by unfold renE; rw [if_neg (fun h => h hz), if_neg h1', if_neg h2', if_neg g2, if_neg h3', h4, h5]; exact if_pos h6
                  rw [e]
                  exact (pren_ord L u nm tn c w hv hL hz hn ht h1 h2 g2 h3 i h4 hi h5 h6).mono fun e w' h => OutB.bad (by decide) h
                · have e : renE L nm tn c = 0 := by unfold renE; rw [if_neg (fun h => h hz), if_neg h1', if_neg h2', if_neg g2, if_neg h3', h4, h5]; exact if_neg h6
                  rw [e]
                  exact (pren_ok L u nm tn c w hv hL hz hn ht h1 h2 g2 h3 i h4 hi h5 h6 hc).mono fun e w' ⟨v, q, he, hw, hp, hb⟩ => ⟨v, _, he, hw, fun _ => ⟨i, h4, q, cut_plc hp (fun y hy hne => by obtain ⟨x, hx, e1, e2⟩ := set_keep hi y hy; exact put_ne (vld_of hz) h3 h5 x hx ⟨e1 ▸ hne.1, e2 ▸ hne.2⟩), by simp⟩, fun h => absurd rfl h, hb⟩
  · have e : renE L nm tn c = valB L := by unfold renE; rw [if_pos hz]
    rw [e]
    exact (pren_bad L u nm tn c w hv hL _ rfl hz).mono fun e w' h => OutB.bad hz h
set_option maxRecDepth 100000 in
set_option maxHeartbeats 2000000 in
theorem plook_any (L : List Bg) (v : Value) (nm : ByteArray) (c : Int) (w : World) (hv : RdBg L v w) (hL : L.length ≤ 1000000000000) :
    Calls Try.prog 19 #[v, .string nm, .int .i64 c] w fun e w' => e = .returned (.tuple #[.int .i64 (lokO L nm c), .bool (lokB L nm c).isSome]) ∧ Below w.heap.size w w' := by
  obtain ⟨a, cap, rfl⟩ := hv.shape
  have HV := Lib.hid hv
  clear hv
  go_enter Try.func19, Try.ntmps19
  go_wp2
  go_loopw [9, 12] (fun _ i wr => ∃ q : Nat, q ≤ L.length ∧ i = .int .i64 (q : Int) ∧ Hid (∀ x, x < q → (fun x : Bg => decide (x.n = nm) && hldB x.k x.s c) (L.getD x Bg.z) = false) ∧ Hid (Below w.heap.size w wr)) (fun _ i _ => L.length - (intOf i).toNat)
  case atStart => exact ⟨0, by omega, rfl, Lib.hid (fun x hx => by omega), Lib.hid (Below.refl _ _)⟩
  case round =>
    obtain ⟨q, hq, rfl, HN, HB⟩ := hrel
    by_cases hlt : q < L.length
    · have hqi : (q : Int) < (L.length : Int) := by omega
      obtain ⟨b, off, rfl, hbl, c0, c1, c2, c3⟩ := (HV.out.below HB.out).at_ hlt
      have HIT := Lib.hid (fun h => show lokB L nm c = some q from fib_hit (p := fun x => decide (x.n = nm) && hldB x.k x.s c) HN.out hlt h)
      have HNX : Hid ((fun x : Bg => decide (x.n = nm) && hldB x.k x.s c) (L.getD q Bg.z) = false → ∀ x, x < q + 1 → (fun x : Bg => decide (x.n = nm) && hldB x.k x.s c) (L.getD x Bg.z) = false) := Lib.hid (fun h x hx => by
        rcases Nat.lt_or_ge x q with h' | h'
        · exact HN.out x h'
        · obtain rfl : x = q := by omega
          exact h)
      obtain ⟨y, hy⟩ : ∃ y, L.getD q Bg.z = y := ⟨_, rfl⟩
      rw [hy] at c0 c1 c2 c3 HIT HNX
      have HY := Lib.hid hy
      clear hy
      obtain ⟨m, o, f, t⟩ := y
      simp only at c0 c1 c2 c3
      have hh := fun w => holds18_any m o f t c w
      by_cases hm : m = nm
      · cases hr : hldB f t c with
        | true =>
          have HF := Lib.hid (HIT.out (by simp [hm, hr]))
          rw [hr] at hh
          clear HIT HNX hr
          subst hm
          go_wp2_with (go_at_call 33; refine (hh _).mono ?_; rintro e w3 ⟨rfl, hb⟩; have HB3 := Lib.hid (bgo (bal HB.out _) hb); have e1 := ((bcell hb).1 wr.heap.size 1 (by simp)).trans (show (wr.alloc (.cells #[.string m, .int .i64 o, .int .i64 f, .int .i64 t] 49)).cell? ⟨wr.heap.size, 1, none⟩ = some (.int .i64 o) by go_simp); clear hb)
          go_ret2
          have he : lokO L m c = o := by unfold lokO; rw [HF.out]; show (L.getD q Bg.z).r = o; rw [HY.out]
          exact ⟨by rw [he, HF.out]; rfl, HB3.out⟩
        | false =>
          have HF := Lib.hid (HNX.out (by simp [hr]))
          rw [hr] at hh
          clear HIT HNX hr
          subst hm
          go_wp2_with (go_at_call 33; refine (hh _).mono ?_; rintro e w3 ⟨rfl, hb⟩; have HB3 := Lib.hid (bgo (bal HB.out _) hb); have e1 := ((bcell hb).1 wr.heap.size 1 (by simp)).trans (show (wr.alloc (.cells #[.string m, .int .i64 o, .int .i64 f, .int .i64 t] 49)).cell? ⟨wr.heap.size, 1, none⟩ = some (.int .i64 o) by go_simp); clear hb)
          go_roundw
          case rel => exact ⟨q + 1, by omega, by go_num, HF, Lib.hid HB3.out⟩
          case measure => simp [intOf]; omega
      · have HF := Lib.hid (HNX.out (by simp [hm]))
        have hm2 : (m.toList == nm.toList) = false := beq_eq_false_iff_ne.2 (fun h => hm (toL_inj h))
        clear HIT HNX
        go_wp2_with (fail)
        go_roundw
        case rel => exact ⟨q + 1, by omega, by go_num, HF, Lib.hid (bal HB.out _)⟩
        case measure => simp [intOf]; omega
    · obtain rfl : q = L.length := by omega
      have HF := Lib.hid (show lokB L nm c = none from fib_miss HN.out)
      go_wp2
      go_ret2
      exact ⟨by unfold lokO; rw [HF.out]; rfl, HB.out⟩
end Go.Proofs.Ytpehbfghajlgmaa
