/- b[k:] under one name. -/
import Derived.Test.YtdifilhfmbpalaaDoorStepApp
namespace Go.Proofs.YtdifilhfmbpalaaDoor
open Go.RowKit
set_option linter.unusedVariables false
set_option linter.unusedSimpArgs false
/-- What follows a number. -/
def restU (L : List Int) : List Int := L.drop (decU L).2.1.toNat
/-- What b[k:] is. -/
def tlV : Value → Nat → Value
  | .slice a n c, k => .slice (if c = k then a else a.map (·.add k)) (n - k) (c - k)
  | v, _ => v
theorem tlV_run {L : List Int} {v : Value} {w : World} (h : Rd L v w) (k : Nat) (hk : k ≤ L.length) (w' : World) : (Instr.slice 23 v (some (.int .i64 (k : Int))) none none).run Tryd.prog w' = .ok (tlV v k) w' := by
  obtain ⟨hy, a, cap, rfl, h1, h2, h3⟩ := h
  have ht : Tryd.prog.underlying 23 = some (.slice (Tryd.prog.elem 23)) := by simp [Program.elem, Tryd.underlying23]
  have he : Tryd.prog.elem 23 = 5 := by simp [Program.elem, Tryd.underlying23]
  rw [run_slice_l w' 23 _ _ _ ht .i64 _ (by omega) (by omega), he, Tryd.sizeOf5]
  simp [Result.andThen, sliced, tlV]
theorem Rd.tl {L : List Int} {v : Value} {w : World} (h : Rd L v w) (k : Nat) (hk : k ≤ L.length) : Rd (L.drop k) (tlV v k) w := by
  have h0 := h
  obtain ⟨hy, a, cap, rfl, h1, h2, h3⟩ := h
  by_cases hp : 0 < L.length
  · obtain ⟨b, off, rfl, hb, hc⟩ := h3 hp
    have := h0.cut k L.length hk (Nat.le_refl _) (if cap = k then some ⟨b, off, none⟩ else some ⟨b, off + k, none⟩) (fun h => by rw [if_neg (by omega)]) (m := L.length - k) (c := cap - k) rfl rfl
    rw [List.take_length] at this
    show Rd (L.drop k) (.slice (if cap = k then some (⟨b, off, none⟩ : Addr) else Option.map (fun x : Addr => x.add k) (some (⟨b, off, none⟩ : Addr))) (L.length - k) (cap - k)) w
    have e : (if cap = k then some (⟨b, off, none⟩ : Addr) else Option.map (fun x : Addr => x.add k) (some (⟨b, off, none⟩ : Addr))) = if cap = k then some (⟨b, off, none⟩ : Addr) else some (⟨b, off + k, none⟩ : Addr) := by
      by_cases h : cap = k <;> simp [h, Addr.add]
    rw [e]
    exact this
  · obtain rfl : L = [] := List.eq_nil_of_length_eq_zero (by omega)
    obtain rfl : k = 0 := by simpa using hk
    refine ⟨hy, ?_⟩
    exact ⟨_, cap, rfl, by simp, by omega, fun h => by simp at h⟩
end Go.Proofs.YtdifilhfmbpalaaDoor
