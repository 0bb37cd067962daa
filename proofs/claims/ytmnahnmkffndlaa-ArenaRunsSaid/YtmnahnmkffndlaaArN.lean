/- The contracts of arena.New, Live, free, remove and of bytes.Clone. -/
import Derived.Test.YtmnahnmkffndlaaAr
import Derived.Lib.SliceRun
import Derived.OwnWalk
namespace Go.Proofs.Ytmnahnmkffndlaa
open Go.RowKit Go.Maps
set_option linter.unusedVariables false
set_option linter.unusedSimpArgs false
theorem arBad_any (c : Int) (w : World) (c0 : -9223372036854775808 ≤ c) (c1 : c ≤ 9223372036854775807) (h : c < 0 ∨ 16384 < c) :
    Calls Try.prog 7 #[.int .i64 c] w fun e w' => e = .returned (.tuple #[.pointer none, .int .i64 5]) ∧ w = w' := by
  by_cases h1 : c < 0
  · clear h
    go_enter Try.func7, Try.ntmps7
    go_wp2
    go_ret2
    exact ⟨rfl, rfl⟩
  · have h2 : 16384 < c := by omega
    clear h
    go_enter Try.func7, Try.ntmps7
    go_wp2
    go_ret2
    exact ⟨rfl, rfl⟩
set_option maxRecDepth 100000 in
theorem arNew_any (c : Int) (w : World) (c0 : 0 ≤ c) (c1 : c ≤ 16384) :
    Calls Try.prog 7 #[.int .i64 c] w fun e w' => e = .returned (.tuple #[.pointer (some ⟨w.heap.size + 1, 0, none⟩), .int .i64 0]) ∧ (∀ B, ArAt B (w.heap.size + 1) w.heap.size c 1 [] w') ∧ Below w.heap.size w w' ∧ w'.heap.size = w.heap.size + 2 := by
  have hmk : (Instr.makeMap 56 none).run Try.prog w = .ok (.map (some w.heap.size)) (w.alloc (.map #[] 0)) := by
    simp [Instr.makeMap, run_underlying Try.underlying56, Result.andThen, go_sem]
  go_enter Try.func7, Try.ntmps7
  go_wp2
  go_ret2
  refine ⟨rfl, fun B => ?_, b2 _ _, by simp⟩
  have hm : MapAt B w.heap.size [] ((w.alloc (.map #[] 0)).alloc (.cells #[.int .i64 c, .map (some w.heap.size), .int .i64 1] 58)) := (MapAt.new B w).below (Below.alloc (Below.refl _ _) (Nat.le_refl _) _)
  refine ⟨⟨_, ?_, rfl⟩, hm, trivial, (fun p hp => by cases hp), ⟨c0, c1, by simpa using c0⟩, (fun p hp => by cases hp), by simp [frN]⟩
  have := heap_alloc_new (w.alloc (.map #[] 0)) (.cells #[.int .i64 c, .map (some w.heap.size), .int .i64 1] 58)
  simpa using this
theorem live_any {B g bm : Nat} {c lo : Int} {L : List Pg} {w : World} (h : ArAt B g bm c lo L w) :
    Calls Try.prog 17 #[.pointer (some ⟨g, 0, none⟩)] w fun e w' => e = .returned (.int .i64 L.length) ∧ w = w' := by
  have c1 := h.rowAt.cell (j := 1) rfl
  have hl := fun ty => h.map.len ty
  clear h
  go_enter Try.func17, Try.ntmps17
  go_wp2
  go_ret
  exact ⟨rfl, rfl⟩
theorem own_new0 (w : World) : Own w.heap.size [] (.slice (some ⟨w.heap.size, 0, none⟩) 0 0) (w.alloc (.cells #[] 5)) :=
  ⟨Byt.nil, rfl, .inr ⟨w.heap.size, 0, #[], rfl, Nat.le_refl _, Go.heap_alloc_new w _, Nat.le_refl _, by decide, rfl, rfl⟩⟩
theorem clone_any (B : Nat) (L : List Int) (v : Value) (w : World) (h : Own B L v w) (h1 : L.length ≤ 1000000000000) :
    Calls Try.prog 22 #[v] w fun e w' => ∃ v', e = .returned v' ∧ Own w.heap.size L v' w' ∧ Below w.heap.size w w' := by
  have h' := h
  have q22 : ∀ (w : World) (a : Option Addr) (n c n' c' : Nat), (binOp .eql 31 (.slice a n c) (.slice none n' c')).run Try.prog w = .ok (.bool a.isNone) w := fun w a n c n' c' => Lib.run_eql_slice_nil w _ _ a n c n' c' Try.underlying31
  obtain ⟨hy, hl, ⟨rfl, h0⟩ | ⟨g, cap, cur, rfl, hb, hg, -⟩⟩ := h'
  · have hL : L = [] := List.eq_nil_of_length_eq_zero h0
    subst hL
    clear h hl hy
    go_enter Try.func22, Try.ntmps22
    go_wp2
    go_ret
    exact ⟨_, rfl, Own.empty _ _, Below.refl _ _⟩
  · have H := Lib.hid h
    have HL := Lib.hid h1
    clear h hl hy hg h1
    go_enter Try.func22, Try.ntmps22
    go_wp2_with (at_builtin; refine wp_app rfl _ _ _ rfl w.heap.size [] L _ _ rfl rfl (own_new0 _) (H.out.alloc _).rd.src (by simp) (by have := HL.out; simp; omega) ?_; intro v1 w1 o1 b1'; have O1 := Lib.hid o1; have B1 := Lib.hid b1'; clear o1 b1')
    go_ret
    exact ⟨_, rfl, by simpa using O1.out, (Go.Proofs.Ytmnahnmkffndlaa.b1 _).trans (B1.out.mono (by simp))⟩
set_option maxRecDepth 100000 in
theorem free_any {B g bm : Nat} {c lo : Int} {L : List Pg} {w : World} (h : ArAt B g bm c lo L w) :
    Calls Try.prog 21 #[.pointer (some ⟨g, 0, none⟩)] w fun e w' => e = .returned (.int .i64 (frN 1 L)) ∧ Below w.heap.size w w' := by
  have H := Lib.hid h
  have c2 := h.rowAt.cell (j := 2) rfl
  have hlo := h.low
  have hfr : frN 1 L ≤ 16385 := by
    have := (frN_le L 1).2
    have := h.cap
    omega
  clear h
  go_enter Try.func21, Try.ntmps21
  go_wp2
  go_loopw [3] (fun n wr => ∃ k : Int, lo ≤ k ∧ k ≤ frN 1 L ∧ n = .int .i64 k ∧ Hid (Below w.heap.size w wr)) (fun n _ => (frN 1 L - intOf n).toNat)
  case atStart => exact ⟨lo, Int.le_refl _, hlo.2, rfl, Lib.hid (Below.refl _ _)⟩
  case round =>
    obtain ⟨k, k1, k2, rfl, HB⟩ := hrel
    have ha := H.out.below HB.out
    have d1 := ha.rowAt.cell (j := 1) rfl
    have hki : InI k := ⟨by omega, by omega⟩
    by_cases hk : k = frN 1 L
    · have hm := ha.map.miss hki (by rw [hk]; exact frN_none ha.asc)
      clear ha
      have HK := Lib.hid hk
      clear hk hlo hfr k2
      go_wp2
      go_ret
      exact ⟨by rw [HK.out]; rfl, bal HB.out _⟩
    · obtain ⟨p, hp⟩ := frN_some (j := k) ha.asc (by omega) (by omega)
      obtain ⟨s, hs, hm⟩ := ha.map.hit true hki hp
      simp only [if_true, PgV] at hm
      obtain ⟨a3, c3, rfl⟩ := hs.shape
      clear ha
      go_wp2
      go_roundw
      case rel => exact ⟨k + 1, by omega, by omega, rfl, Lib.hid (bal HB.out _)⟩
      case measure => simp [intOf]; omega
end Go.Proofs.Ytmnahnmkffndlaa
