/- Pages: append in a region that draws; a slice cut in two. -/
import Derived.Test.YtmnahnmkffndlaaPmK
import Derived.Deep.RegionLaw
namespace Go.Proofs.Ytmnahnmkffndlaa
open Go.RowKit Go.Maps
set_option linter.unusedVariables false
set_option linter.unusedSimpArgs false
theorem step_appPMk {w : World} {ops : Array Oper} {o : Oper} {a : Act} {K : Act → World → Prop} {Q : Exit → Act → World → Prop} {E : Prop} (hgd : o.guard = none) (s x : Operand) (tx : TypeId)
    (ho : o.op = .call { callee := .builtin .append, args := #[s, x], argTypes := #[27, tx] }) (B : Nat) (L M : List PM) (v u : Value) (hs : a.eval s = v) (hx : a.eval x = u)
    (hown : OwnPM B L v w) (hsrc : FromPM M tx u w) (hB : B ≤ w.heap.size) (hn : L.length + M.length ≤ 1099511627776)
    (h : ∀ v' w', OwnPM B (L ++ M) v' w' → Below B w w' → (∀ T, T ≠ 54 → KpT T w w') → K (a.put o.dst v') w') : if Region.wanted o (yielded ops a.tmps) = true then Oper.wp Try.prog o a w K Q else E := by
  have hw : Region.wanted o (yielded ops a.tmps) = true := by simp [Region.wanted, hgd]
  rw [if_pos hw]
  obtain ⟨i0, hi, hz0, hz1, hz2⟩ := info_parts info_pm
  obtain ⟨v', w', hr, h1, h2⟩ := run_own_src (P := Try.prog) w B 27 tx o.type 54 i0 (.agg #[.int .i64 0, .int .i64 0, .slice none 0 0]) 3 40 Try.underlying27 hi hz0 hz1 hz2 rfl (by decide) v L.length (cellsPM L) hown.2 u M.length (cellsPM M) hsrc.2 (by unfold maxLen; omega) (by omega) hB
  unfold Oper.wp execOp
  simp only [ho, resolve, invoke, builtin, Sem.run_bind, Sem.run_pure, Result.andThen_ok, List.map_toArray, List.map_cons, List.map_nil, hs, hx, hr]
  refine h v' w' ⟨hown.1.app hsrc.1, ?_⟩ ((Below.refl _ _).grown h2 hB (fun k hk => (World.ownsRow.lt hown.2 k hk).1)) (fun T hT => KpT.grown hT hown.2 h2)
  rw [List.length_append, cellsPM_app]
  exact h1
theorem OwnPM.cutL {B g n cap : Nat} {M : List PM} {w : World} (h : OwnPM B M (.slice (some ⟨g, 0, none⟩) n cap) w) {j : Nat} (hj : j ≤ M.length) : OwnPM B (M.take j) (.slice (some ⟨g, 0, none⟩) j cap) w := by
  obtain ⟨hy, h1, h2⟩ := h
  have hlen : (M.take j).length = j := by rw [List.length_take]; omega
  refine ⟨hy.take j, ?_, ?_⟩
  · rw [cellsPM_len]
  · rcases h2 with ⟨he, _⟩ | ⟨g', cap', cur, he, hb, hg, q1, q2, q3, q4⟩
    · cases he
    · simp only [Value.slice.injEq, Option.some.injEq, Addr.mk.injEq] at he
      obtain ⟨⟨rfl, -⟩, -, rfl⟩ := he
      refine .inr ⟨g, cap, cur, by rw [hlen], hb, hg, by rw [hlen]; omega, q2, q3, ?_⟩
      rw [hlen, cellsPM_take, ← q4, List.take_take, Nat.min_eq_left (Nat.mul_le_mul_right 3 hj)]
theorem RdPM.cut {M : List PM} {b off n cap : Nat} {w : World} (h : RdPM M (.slice (some ⟨b, off, none⟩) n cap) w) (lo : Nat) (h1 : lo ≤ M.length) (a' : Option Addr) (ha : lo < M.length → a' = some ⟨b, off + lo * 3, none⟩) {m c : Nat} (hm : m = n - lo) (hc : c = cap - lo) : RdPM (M.drop lo) (.slice a' m c) w := by
  obtain ⟨hy, a, cap', he, q1, q2, q3⟩ := h
  simp only [Value.slice.injEq] at he
  obtain ⟨rfl, rfl, rfl⟩ := he
  refine ⟨fun x hx => hy x (List.mem_of_mem_drop hx), a', c, ?_, ?_, by omega, fun hp => ?_⟩
  · rw [List.length_drop, hm]
  · rw [List.length_drop]; omega
  · rw [List.length_drop] at hp
    obtain ⟨b', off', hbo, hlt, hcell⟩ := q3 (by omega)
    simp only [Option.some.injEq, Addr.mk.injEq, and_true] at hbo
    obtain ⟨rfl, rfl⟩ := hbo
    refine ⟨b, off + lo * 3, ha (by omega), hlt, fun j hj => ?_⟩
    rw [List.length_drop] at hj
    have := hcell (lo + j) (by omega)
    rw [Nat.add_mul, ← Nat.add_assoc] at this
    have e : (M.drop lo).getD j PM.z = M.getD (lo + j) PM.z := by simp [List.getD]
    rw [e]
    exact this
end Go.Proofs.Ytmnahnmkffndlaa
