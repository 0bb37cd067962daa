/- The walks of the laws MixerHashes and MixerShapes. -/
import Derived.Test.YtmahhkddojcinaaTabLaw
import Derived.Test.YtmahhkddojcinaaArgs
namespace Go.Proofs.Ytmahhkddojcinaa
open Go.RowKit
set_option linter.unusedVariables false
set_option linter.unusedSimpArgs false
theorem t_hash {L : List Int} {v : Value} {w : World} (s : ByteArray) (hs : s.size ≤ 140737488355328) (h : TabIn L v w) :
    Calls Try.prog 15 #[v, .string s] w fun e w' => e = .returned (.tuple #[.int .u64 (hashI L s), .int .i64 0]) ∧ w = w' := by
  obtain ⟨g, cap, rfl, _, hc⟩ := h
  exact hash_any L s g 0 cap w hs (fun j hj => by rw [Nat.zero_add]; exact hc j hj)
theorem t_rhash {L : List Int} {v : Value} {w : World} (s : ByteArray) (hs : s.size ≤ 140737488355328) (h : TabIn L v w) :
    Calls Try.prog 16 #[v, .string s] w fun e w' => e = .returned (.tuple #[.int .u64 (hashI L s), .int .i64 0]) ∧ w = w' := by
  obtain ⟨g, cap, rfl, _, hc⟩ := h
  exact rhash_any L s g 0 cap w hs (fun j hj => by rw [Nat.zero_add]; exact hc j hj)
set_option maxRecDepth 100000 in
set_option maxHeartbeats 1000000 in
theorem mixerHashes_walk (x : Int) (s : ByteArray) (W : World) (w0 : (Lit.int .u64 x).wf = true) (w1 : s.size ≤ maxLen) :
    Calls Try.prog 5 #[.int .u64 x, .string s] W fun e w' => e = .returned (.bool true) ∧ Below W.heap.size W w' := by
  unfold maxLen at w1
  have b0 := wf_bdu w0
  have hA := fun w => t_tab x w b0.1 b0.2
  have hB := fun w => t_rtab x w b0.1 b0.2
  generalize tab x 256 = L at *
  clear w0 b0
  by_cases hs : 1000 < s.size
  · clear hA hB
    go_enter Try.func5, Try.ntmps5
    go_wp2_with (go_at_call 12; refine (known_any _).mono ?_; rintro e w' ⟨rfl, hb⟩)
    go_ret
    exact ⟨rfl, hb⟩
  · have hH := fun (v : Value) (w : World) (h : TabIn L v w) => t_hash s (by omega) h
    have hR := fun (v : Value) (w : World) (h : TabIn L v w) => t_rhash s (by omega) h
    generalize hashI L s = m at *
    go_enter Try.func5, Try.ntmps5
    go_wp2_with (first
      | (go_at_call 13; refine (hA _).mono ?_; rintro e w1 ⟨v, rfl, hv, hb1⟩)
      | (go_at_call 14; refine (hB _).mono ?_; rintro e w2 ⟨u, rfl, hu, hb2⟩)
      | (go_at_call 15; refine (hH _ _ hv).mono ?_; rintro e w' ⟨rfl, rfl⟩)
      | (go_at_call 16; refine (hR _ _ hu).mono ?_; rintro e w' ⟨rfl, rfl⟩)
      | (go_at_call 12; refine (known_any _).mono ?_; rintro e w' ⟨rfl, hb3⟩))
    go_ret
    exact ⟨rfl, (hb1.trans (hb2.mono hb1.size)).trans (hb3.mono (Nat.le_trans hb1.size hb2.size))⟩
/-- The hash over a slice that came in, whatever its length: one answer of both programs. -/
theorem both_hash (A : Option Addr) (n cap : Nat) (z : List Int) (s : ByteArray) (W : World) (h : InRow .u64 W A n cap z) (hs : s.size ≤ 140737488355328) : ∃ r e : Int,
    (Calls Try.prog 15 #[.slice A n cap, .string s] W fun x w' => x = .returned (.tuple #[.int .u64 r, .int .i64 e]) ∧ W = w') ∧
    Calls Try.prog 16 #[.slice A n cap, .string s] W fun x w' => x = .returned (.tuple #[.int .u64 r, .int .i64 e]) ∧ W = w' := by
  by_cases hn : n = 256
  · subst hn
    obtain ⟨b, off, rfl, _, hc⟩ := h.at_ (by decide) (Below.refl _ _)
    exact ⟨_, _, hash_any z s b off cap W hs hc, rhash_any z s b off cap W hs hc⟩
  · have hm : n ≤ maxLen := Nat.le_trans h.1 h.2.1
    exact ⟨_, _, hash_off A n cap s W hn hm, rhash_off A n cap s W hn hm⟩
/-- The words of T over those of L. -/
def over (T L : List Int) (k : Nat) : List Int := T.take k ++ L.drop k
theorem over_len {T L : List Int} {k : Nat} (h : k ≤ T.length) (hl : k ≤ L.length) : (over T L k).length = L.length := by
  simp [over]; omega
theorem over_set {T L : List Int} {k : Nat} (h : k < T.length) (hl : k < L.length) : (over T L k).set k (T.getD k 0) = over T L (k + 1) := by
  unfold over
  have e : k - (List.take k T).length = 0 := by simp; omega
  rw [List.set_append_right _ _ (by simp; omega), e, List.drop_eq_getElem_cons hl, List.set_cons_zero, List.take_succ_eq_append_getElem h]
  simp [List.getD, h, -List.take_append_getElem]
def Vals (L : List Int) : List Value := L.map fun n : Int => Value.int .u64 n
theorem vals_at {L : List Int} {k : Nat} (h : k < L.length) : (Vals L)[k]? = some (.int .u64 (L.getD k 0)) := by simp [Vals, List.getD, h]
theorem vals_set (L : List Int) (k : Nat) (t : Int) : (Vals L).set k (.int .u64 t) = Vals (L.set k t) := by simp [Vals, List.map_set]
/-- The table of the caller's own while the words of T are written over it. -/
def Over (B g cap : Nat) (M : List Int) (w : World) : Prop := w.ownsRow B 22 1 (.slice (some ⟨g, 0, none⟩) 256 cap) 256 (Vals M)
theorem over_of_words {B : Nat} {M : List Int} {v : Value} {w : World} (h : Words B M v w) (hM : M.length = 256) : ∃ g cap, v = .slice (some ⟨g, 0, none⟩) 256 cap ∧ B ≤ g ∧ Over B g cap M w := by
  obtain ⟨g, cap, rfl, hB, _, _⟩ := words_at h (fun e => by rw [e] at hM; cases hM)
  rw [hM]
  refine ⟨g, cap, rfl, hB, ?_⟩
  unfold Words at h
  rw [hM] at h
  exact h
theorem Over.read {B g cap : Nat} {M : List Int} {w : World} (h : Over B g cap M w) (hM : M.length = 256) (j : Nat) (hj : j < 256) : w.cell? ⟨g, j, none⟩ = some (.int .u64 (M.getD j 0)) :=
  (World.ownsRow.cellAt h j (by omega)).trans (vals_at (by omega))
theorem Over.write {B g cap : Nat} {M : List Int} {w : World} (h : Over B g cap M w) (j : Nat) (t : Int) : Over B g cap (M.set j t) (w.setCell ⟨g, j, none⟩ (.int .u64 t)) := by
  have := (World.ownsRow.stored h j (.int .u64 t)).1
  rw [vals_set] at this
  exact this
theorem Over.both {B g cap : Nat} {M : List Int} {w : World} (h : Over B g cap M w) (hM : M.length = 256) (s : ByteArray) (hs : s.size ≤ 140737488355328) : ∃ r : Int, ∀ w', w' = w →
    (Calls Try.prog 15 #[.slice (some ⟨g, 0, none⟩) 256 cap, .string s] w' fun x w'' => x = .returned (.tuple #[.int .u64 r, .int .i64 0]) ∧ w' = w'') ∧
    Calls Try.prog 16 #[.slice (some ⟨g, 0, none⟩) 256 cap, .string s] w' fun x w'' => x = .returned (.tuple #[.int .u64 r, .int .i64 0]) ∧ w' = w'' := by
  refine ⟨hashI M s, fun w' e => ?_⟩
  subst e
  have hc : ∀ j, j < 256 → w'.cell? ⟨g, 0 + j, none⟩ = some (.int .u64 (M.getD j 0)) := fun j hj => by rw [Nat.zero_add]; exact h.read hM j hj
  exact ⟨hash_any M s g 0 cap w' hs hc, rhash_any M s g 0 cap w' hs hc⟩
set_option maxRecDepth 100000 in
set_option maxHeartbeats 1000000 in
theorem mixerShapes_walk (A : Option Addr) (n cap : Nat) (z : List Int) (s : ByteArray) (x : Int) (W : World) (w0 : InRow .u64 W A n cap z) (w1 : s.size ≤ maxLen) (w2 : (Lit.int .u64 x).wf = true) :
    Calls Try.prog 6 #[.slice A n cap, .string s, .int .u64 x] W fun e w' => e = .returned (.bool true) ∧ Below W.heap.size W w' := by
  unfold maxLen at w1
  have b0 := wf_bdu w2
  have hn : n ≤ 9223372036854775807 := by have := w0.1; have := w0.2.1; unfold maxLen at this; omega
  by_cases hg : 300 < n ∨ 300 < s.size
  · by_cases hg1 : 300 < n
    all_goals
      clear b0 w2
      go_enter Try.func6, Try.ntmps6
      go_wp2_with (go_at_call 12; refine (known_any _).mono ?_; rintro e w' ⟨rfl, hb⟩)
      go_ret
      exact ⟨rfl, hb⟩
  · have hn300 : n ≤ 300 := by omega
    have hs300 : s.size ≤ 300 := by omega
    obtain ⟨r, f, hH, hR⟩ := both_hash A n cap z s W w0 (by omega)
    have hB : ∀ w, Calls Try.prog 14 #[.int .u64 x] w fun e w' => ∃ g c, e = .returned (.slice (some ⟨g, 0, none⟩) 256 c) ∧ w.heap.size ≤ g ∧ Over w.heap.size g c (over z (tab x 256) 0) w' ∧ Below w.heap.size w w' := fun w =>
      (rtable_any x w b0.1 b0.2).mono fun e w' ⟨v, he, hv, hb⟩ => by
        obtain ⟨g, c, rfl, hB, ho⟩ := over_of_words hv (tab_len x 256)
        exact ⟨g, c, he, hB, ho, hb⟩
    have hL := tab_len x 256
    generalize tab x 256 = L at *
    clear hg b0 w2
    go_enter Try.func6, Try.ntmps6
    go_wp2_with (first
      | (go_at_call 15; refine hH.mono ?_; rintro e w' ⟨rfl, rfl⟩)
      | (go_at_call 16; refine hR.mono ?_; rintro e w' ⟨rfl, rfl⟩)
      | (go_at_call 14; refine (hB _).mono ?_; rintro e w1 ⟨g, c, rfl, hgB, ho, hb1⟩; clear hB hH hR))
    go_loopw [12] (fun i wr => ∃ k : Nat, k ≤ n ∧ k ≤ 256 ∧ i = .int .i64 (k : Int) ∧ Over W.heap.size g c (over z L k) wr ∧ Below W.heap.size W wr) (fun i _ => 256 - (intOf i).toNat)
    case atStart => exact ⟨0, by omega, by omega, rfl, ho, hb1⟩
    case round =>
      obtain ⟨k, hk, hk2, rfl, hov, hbl⟩ := hrel
      clear ho hb1
      have hzl : n ≤ z.length := by have := w0.1; have := w0.2.2.1; omega
      have hlen : (over z L k).length = 256 := by rw [over_len (by omega) (by omega), hL]
      by_cases hlt : k < n ∧ k < 256
      · obtain ⟨hlt, hlt2⟩ := hlt
        obtain ⟨b, off, rfl, hbs, hc⟩ := w0.at_ (by omega) hbl
        have h1 := hc k hlt
        have h2 := hov.read hlen k hlt2
        have hf : wr.frozen? ⟨g, k, none⟩ = false := World.ownsRow.frozenAt hov k
        have hst := hov.write k (z.getD k 0)
        have hst2 := over_set (T := z) (L := L) (k := k) (by omega) (by omega)
        rw [hst2] at hst
        have hbl2 := hbl.setCell (p := ⟨g, k, none⟩) hgB (.int .u64 (z.getD k 0))
        have H1 := Lib.hid hst
        have H2 := Lib.hid hbl2
        have hne : b ≠ g := by omega
        clear hst hst2 hbl2 hc hov hbl hlen hzl w0
        generalize z.getD k 0 = t at *
        generalize (over z L k).getD k 0 = t' at *
        go_wp2
        go_roundw
        case rel => exact ⟨k + 1, by omega, by omega, by go_num, H1.out, H2.out⟩
        case measure => simp [intOf]; omega
      · obtain ⟨q, hq⟩ := hov.both hlen s (by omega)
        obtain ⟨hq1, hq2⟩ := hq _ rfl
        have H1 := Lib.hid hbl
        have H2 := Lib.hid hlen
        clear hq hov hbl hlen hzl w0 hL
        by_cases hlt1 : k < n
        all_goals
          go_wp2_with (first
            | (go_at_call 15; refine hq1.mono ?_; rintro e w' ⟨rfl, rfl⟩)
            | (go_at_call 16; refine hq2.mono ?_; rintro e w' ⟨rfl, rfl⟩)
            | (go_at_call 12; refine (known_any _).mono ?_; rintro e w' ⟨rfl, hb3⟩))
          go_ret
          exact ⟨rfl, H1.out.trans (hb3.mono H1.out.size)⟩
end Go.Proofs.Ytmahhkddojcinaa
