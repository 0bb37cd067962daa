/- The contracts of math/bits.Len at small numbers, of slices.SortFunc at no more than 12 entries, and of slices.Clone. -/
import Derived.Test.YtcmekpdgikploaaPSrt
import Derived.Lib.SliceRun
namespace Go.Proofs.Ytcmekpdgikploaa
open Go.RowKit
set_option linter.unusedVariables false
set_option linter.unusedSimpArgs false
set_option maxRecDepth 100000 in
set_option maxHeartbeats 4000000 in
theorem len64_any (n : Int) (w : World) (h0 : 0 ≤ n) (h1 : n ≤ 12) : Calls Try.prog 87 #[.int .u64 n] w fun e w' => (∃ l : Int, e = .returned (.int .i64 l)) ∧ w = w' := by
  have h : n = 0 ∨ n = 1 ∨ n = 2 ∨ n = 3 ∨ n = 4 ∨ n = 5 ∨ n = 6 ∨ n = 7 ∨ n = 8 ∨ n = 9 ∨ n = 10 ∨ n = 11 ∨ n = 12 := by omega
  rcases h with rfl | rfl | rfl | rfl | rfl | rfl | rfl | rfl | rfl | rfl | rfl | rfl | rfl
  all_goals
    clear h0 h1
    go_enter Try.func87, Try.ntmps87
    go_wp2
    go_ret
    exact ⟨⟨_, rfl⟩, rfl⟩
theorem len_any (n : Int) (w : World) (h0 : 0 ≤ n) (h1 : n ≤ 12) : Calls Try.prog 64 #[.int .u64 n] w fun e w' => (∃ l : Int, e = .returned (.int .i64 l)) ∧ w = w' := by
  have h := fun w => len64_any n w h0 h1
  go_enter Try.func64, Try.ntmps64
  go_wp2_with (go_at_call 87; refine (h _).mono ?_; rintro e w' ⟨⟨l, rfl⟩, rfl⟩)
  go_ret
  exact ⟨⟨_, rfl⟩, rfl⟩
set_option maxRecDepth 100000 in
set_option maxHeartbeats 4000000 in
theorem pdq_any (L : List Ent) (B g cap : Nat) (l : Int) (w : World) (hO : OwnE B L (.slice (some ⟨g, 0, none⟩) L.length cap) w) (hn : L.length ≤ 12) (hB : B ≤ w.heap.size) :
    Calls Try.prog 63 #[.slice (some ⟨g, 0, none⟩) L.length cap, .int .i64 0, .int .i64 L.length, .int .i64 l, .func (.func 35) #[] #[]] w fun e w' =>
      e = .returned (.tuple #[]) ∧ OwnE B (sortE L) (.slice (some ⟨g, 0, none⟩) L.length cap) w' ∧ Below B w w' := by
  have hc := isort_any L B g cap w hO (by omega) hB
  have hn2 : (L.length : Int) ≤ 12 := by omega
  clear hO
  go_enter Try.func63, Try.ntmps63
  go_wp2
  go_loopw [1, 2, 3, 10, 11, 12] (fun a b _ _ _ _ wr => a = .int .i64 0 ∧ b = .int .i64 L.length ∧ wr = w) (fun _ _ _ _ _ _ _ => 0)
  case atStart => exact ⟨rfl, rfl, rfl⟩
  case round =>
    obtain ⟨rfl, rfl, rfl⟩ := hrel
    go_wp2_with (go_at_call 78; refine hc.mono ?_; rintro e w' ⟨rfl, ho, hb⟩; have HO := Lib.hid ho; have HB := Lib.hid hb; clear ho hb)
    exact bodyPost_ret (v := .tuple #[]) (by simp [results, Try.results63, go_sem]) rfl ⟨rfl, HO.out, HB.out⟩
set_option maxRecDepth 100000 in
theorem sortF_any (L : List Ent) (B g cap : Nat) (w : World) (hO : OwnE B L (.slice (some ⟨g, 0, none⟩) L.length cap) w) (hn : L.length ≤ 12) (hB : B ≤ w.heap.size) :
    Calls Try.prog 34 #[.slice (some ⟨g, 0, none⟩) L.length cap, .func (.func 35) #[] #[]] w fun e w' =>
      e = .returned (.tuple #[]) ∧ OwnE B (sortE L) (.slice (some ⟨g, 0, none⟩) L.length cap) w' ∧ Below B w w' := by
  have hc := fun l => pdq_any L B g cap l w hO hn hB
  have hl := fun w => len_any L.length w (by omega) (by omega)
  have hw : IntKind.u64.wrap (L.length : Int) = (L.length : Int) := by rw [IntKind.wrap_u64]; omega
  clear hO
  go_enter Try.func34, Try.ntmps34
  go_wp2_with (first
    | (go_at_call 64; refine (hl _).mono ?_; rintro e w' ⟨⟨l, rfl⟩, rfl⟩)
    | (go_at_call 63; refine (hc _).mono ?_; rintro e w' ⟨rfl, ho, hb⟩; have HO := Lib.hid ho; have HB := Lib.hid hb; clear ho hb))
  go_end0
  exact ⟨rfl, HO.out, HB.out⟩
set_option maxRecDepth 100000 in
theorem cloneE_any (L : List Ent) (a : Option Addr) (n cap : Nat) (w : World) (h : RdE L (.slice a n cap) w) (hn : L.length ≤ 1099511627776) :
    Calls Try.prog 30 #[.slice a n cap] w fun e w' => ∃ v, e = .returned v ∧ OwnE w.heap.size L v w' ∧ Below w.heap.size w w' := by
  have HR := Lib.hid h
  cases a with
  | none =>
    obtain ⟨hy, a, cap', he, h1, h2, h3⟩ := h
    have hl : L = [] := by
      apply List.eq_nil_of_length_eq_zero
      cases Nat.eq_zero_or_pos L.length with
      | inl h => exact h
      | inr h => obtain ⟨b, off, hb, _⟩ := h3 h; subst hb; cases he
    subst hl
    clear he h3 hy h1 h2
    have hq := fun w => Go.Lib.run_eql_slice_nil w 23 49 none n cap 0 0 Try.underlying23
    go_enter Try.func30, Try.ntmps30
    go_wp2
    go_ret
    exact ⟨_, rfl, OwnE.empty _ _, Below.refl _ _⟩
  | some ad =>
    have HS := Lib.hid (RdE.below h (b1 (.cells #[] 49))).src
    have HO := Lib.hid (OwnE.newNil w)
    clear h
    have hq := fun w => Go.Lib.run_eql_slice_nil w 23 49 (some ad) n cap 0 0 Try.underlying23
    go_enter Try.func30, Try.ntmps30
    go_wp2_with (at_builtin; refine wp_appE rfl _ _ _ rfl w.heap.size [] L _ _ rfl rfl HO.out HS.out ?c1 ?c2 ?_)
    case c1 => simp
    case c2 => simpa using hn
    intro v' w' ho hb
    have HO' := Lib.hid ho
    have HB' := Lib.hid hb
    clear ho hb
    go_wp2
    go_ret
    exact ⟨_, rfl, HO'.out, (b1 _).trans HB'.out⟩
end Go.Proofs.Ytcmekpdgikploaa
