/- The contracts of slices.Clone of strings and ranks' join; l[k:] under one name. -/
import Derived.Test.YtdifilhfmbpalaaDoorRSrtK
import Derived.Lib.SliceRun
import Derived.Lib.Walk
namespace Go.Proofs.YtdifilhfmbpalaaDoor
open Go.RowKit
set_option linter.unusedVariables false
set_option linter.unusedSimpArgs false
set_option maxRecDepth 100000 in
set_option maxHeartbeats 1000000 in
theorem cloneS_any (L : List ByteArray) (v : Value) (w : World) (h : RdS L v w) (hn : L.length ≤ 549755813888) :
    Calls Tryd.prog 105 #[v] w fun e w' => ∃ u, e = .returned u ∧ OwnS w.heap.size L u w' ∧ Below w.heap.size w w' := by
  obtain ⟨a, cap, rfl⟩ := h.shape
  have HR := Lib.hid h
  have q24 : ∀ (w : World) (a : Option Addr) (n c n' c' : Nat), (binOp .eql 57 (.slice a n c) (.slice none n' c')).run Tryd.prog w = .ok (.bool a.isNone) w := fun w a n c n' c' => Lib.run_eql_slice_nil w _ _ a n c n' c' Tryd.underlying57
  cases a with
  | none =>
    have h0 : L = [] := by
      obtain ⟨a', cap', he, h1, h2, h3⟩ := h
      by_cases hp : 0 < L.length
      · obtain ⟨b, off, rfl, _⟩ := h3 hp
        cases he
      · exact List.eq_nil_of_length_eq_zero (by omega)
    subst h0
    clear h
    go_enter Tryd.func105, Tryd.ntmps105
    go_wp2
    go_ret
    exact ⟨_, rfl, OwnS.empty _ _, Below.refl _ _⟩
  | some ad =>
    clear h
    have HO : Hid (OwnS w.heap.size [] (.slice (some ⟨w.heap.size, 0, none⟩) 0 0) (w.alloc (.cells #[] 9))) := Lib.hid (World.ownsRow_made w #[] 0 (Nat.le_refl _) (Nat.zero_le _) rfl)
    have HS := Lib.hid (HR.out.below (b1 (.cells #[] 9))).src
    go_enter Tryd.func105, Tryd.ntmps105
    go_wp2_with (at_builtin; refine wp_appS rfl _ _ _ rfl w.heap.size [] L _ _ rfl rfl HO.out HS.out (b1 _).size (by simp; omega) ?_; (intro v1 w1 ho1 hb1; have HO1 := Lib.hid ho1; have HB1 := Lib.hid ((b1 _).trans hb1); clear ho1 hb1))
    go_ret
    exact ⟨_, rfl, HO1.out, HB1.out⟩
/-- What l[k:] is. -/
def tlS : Value → Nat → Value
  | .slice a n c, k => .slice (if c = k then a else a.map (·.add (k * 1))) (n - k) (c - k)
  | v, _ => v
theorem tlS_run {L : List ByteArray} {v : Value} {w : World} (h : RdS L v w) (k : Nat) (hk : k ≤ L.length) (hn : L.length ≤ 549755813888) (w' : World) : (Instr.slice 57 v (some (.int .i64 (k : Int))) none none).run Tryd.prog w' = .ok (tlS v k) w' := by
  obtain ⟨a, cap, rfl, h1, h2, h3⟩ := h
  have ht : Tryd.prog.underlying 57 = some (.slice (Tryd.prog.elem 57)) := by simp [Program.elem, Tryd.underlying57]
  have he : Tryd.prog.elem 57 = 9 := by simp [Program.elem, Tryd.underlying57]
  rw [run_slice_l w' 57 _ _ _ ht .i64 _ (by omega) (by omega), he, Tryd.sizeOf9]
  simp [Result.andThen, sliced, tlS]
theorem RdS.tl {L : List ByteArray} {v : Value} {w : World} (h : RdS L v w) (k : Nat) (hk : k ≤ L.length) : RdS (L.drop k) (tlS v k) w := by
  obtain ⟨a, cap, rfl, h1, h2, h3⟩ := h
  refine ⟨if cap = k then a else a.map (·.add (k * 1)), cap - k, by rw [List.length_drop]; rfl, by rw [List.length_drop]; omega, by omega, fun hp => ?_⟩
  rw [List.length_drop] at hp
  obtain ⟨b, off, rfl, hb, hc⟩ := h3 (by omega)
  refine ⟨b, off + k, by rw [if_neg (by omega)]; simp [Addr.add], hb, fun j hj => ?_⟩
  rw [List.length_drop] at hj
  have e : (L.drop k).getD j ByteArray.empty = L.getD (k + j) ByteArray.empty := by simp [List.getD]
  rw [e, show off + k + j = off + (k + j) by omega]
  exact hc (k + j) (by omega)
end Go.Proofs.YtdifilhfmbpalaaDoor
