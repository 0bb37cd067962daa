/- A whole sketch stored into a struct of the call's own: the world behind it under a letter. -/
import Derived.Test.YtlbbmnjhohfbkaaCmRdr
import Derived.Deep.MidRow
namespace Go.Proofs.Ytlbbmnjhohfbkaa
open Go.RowKit
set_option linter.unusedVariables false
set_option linter.unusedSimpArgs false
theorem info_cm : (Try.prog.info? 26).map (·.size) = some 5 := by kernel_rfl
theorem setCells_other (b : Nat) : ∀ (vs : List Value) (o : Nat) (w : World) (k : Nat), k ≠ b → (w.setCells b o vs).heap[k]? = w.heap[k]?
  | [], _, _, _, _ => rfl
  | v :: r, o, w, k, h => by
    rw [World.setCells, setCells_other b r (o + 1) _ k h]
    exact Below.heap_setCell w ⟨b, o, none⟩ v k h
theorem setCells_below (b : Nat) : ∀ (vs : List Value) (o : Nat) (w : World), Below b w (w.setCells b o vs)
  | [], _, _ => Below.refl _ _
  | v :: r, o, w => by
    rw [World.setCells]
    exact ((Below.refl b w).setCell (p := ⟨b, o, none⟩) (Nat.le_refl _) v).trans (setCells_below b r (o + 1) _)
section
variable {w : World}
/-- A store of a whole sketch. -/
theorem wp_storeC {ops : Array Oper} {rest : List Oper} {o : Oper} {a : Act} {Q : Exit → Act → World → Prop} (hgd : o.guard = none) (p y : Operand) (ho : o.op = .store 26 p y) (h : Nat) (hp : a.eval p = .pointer (some ⟨h, 0, none⟩))
    {D0 S0 x0 : Int} {v0 : Value} {s0 : Bool} (hc : CSt h D0 S0 x0 v0 s0 w) {D S x : Int} {b : Option Addr} {n c : Nat} {s : Bool} (hy : a.eval y = .agg #[.int .i64 D, .int .i64 S, .int .u64 x, .slice b n c, .bool s])
    (hK : ∀ w', CSt h D S x (.slice b n c) s w' → Oth h w w' → wpList Try.prog ops Q rest (a.put o.dst undef) w') : wpList Try.prog ops Q (o :: rest) a w := by
  obtain ⟨⟨h0, h1, h2, h3, h4⟩, f0, f1, f2, f3, f4⟩ := hc
  have ht : w.there h 0 5 := fun j hj => by
    match j, hj with
    | 0, _ => exact ⟨by rw [h0]; rfl, f0⟩
    | 1, _ => exact ⟨by rw [h1]; rfl, f1⟩
    | 2, _ => exact ⟨by rw [h2]; rfl, f2⟩
    | 3, _ => exact ⟨by rw [h3]; rfl, f3⟩
    | 4, _ => exact ⟨by rw [h4]; rfl, f4⟩
  refine wpList_store_mid hgd _ p y ho h 0 #[.int .i64 D, .int .i64 S, .int .u64 x, .slice b n c, .bool s] hp hy ht info_cm (all_oneCell_toArray (cs := [.int .i64 D, .int .i64 S, .int .u64 x, .slice b n c, .bool s]) (fun v hv => by simp at hv; rcases hv with rfl | rfl | rfl | rfl | rfl <;> rfl)) ?_
  refine hK _ ⟨?_, ?_⟩ ⟨setCells_below _ _ _ _, fun k hk => setCells_other _ _ _ _ k hk⟩
  · have hr := World.rangeAt_setCells_same w h 0 [.int .i64 D, .int .i64 S, .int .u64 x, .slice b n c, .bool s] ht
    exact ⟨hr 0 _ rfl, hr 1 _ rfl, hr 2 _ rfl, hr 3 _ rfl, hr 4 _ rfl⟩
  · have hq := World.there_setCells (b' := h) (o' := 0) (n := 5) ht h 0 [.int .i64 D, .int .i64 S, .int .u64 x, .slice b n c, .bool s]
    exact ⟨(hq 0 (by decide)).2, (hq 1 (by decide)).2, (hq 2 (by decide)).2, (hq 3 (by decide)).2, (hq 4 (by decide)).2⟩
end
end Go.Proofs.Ytlbbmnjhohfbkaa
