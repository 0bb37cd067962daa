/- The contract of package wire's Unframe. -/
import Derived.Test.YtjpinnoolnhphaaWireSum
import Derived.Deep.RegionLaw
import Derived.Deep.QuietTactic
import Derived.BigQuiet
namespace Go.Proofs.Ytjpinnoolnhphaa
open Go.RowKit
set_option linter.unusedVariables false
set_option linter.unusedSimpArgs false
theorem results_tmp4 {fn : Func} {t u v x : Tmp} (h : fn.results = #[.tmp t, .tmp u, .tmp v, .tmp x]) (tmps : Array Value) (P : Program) (w : World) :
    (results fn tmps).run P w = .ok (.tuple #[tmps.getD t undef, tmps.getD u undef, tmps.getD v undef, tmps.getD x undef]) w := by
  simp [results, h]
/-- append, onto bytes of the call's own, as one step of a region that draws its order. -/
theorem step_app {w : World} {ops : Array Oper} {o : Oper} {a : Act} {K : Act → World → Prop} {Q : Exit → Act → World → Prop} {E : Prop} (hgd : o.guard = none) (s x : Operand) (tx : TypeId)
    (ho : o.op = .call { callee := .builtin .append, args := #[s, x], argTypes := #[37, tx] }) (B : Nat) (L M : List Int) (v u : Value) (hs : a.eval s = v) (hx : a.eval x = u)
    (hown : Own B L v w) (hsrc : From M tx u w) (hB : B ≤ w.heap.size) (hn : L.length + M.length ≤ 140737488355328)
    (h : ∀ v' w', Own B (L ++ M) v' w' → Below B w w' → K (a.put o.dst v') w') : if Region.wanted o (yielded ops a.tmps) = true then Oper.wp Try.prog o a w K Q else E := by
  have hw : Region.wanted o (yielded ops a.tmps) = true := by simp [Region.wanted, hgd]
  rw [if_pos hw]
  obtain ⟨i0, hi, hz0, hz1, hz2⟩ := info_parts info_u8
  obtain ⟨v', w', hr, h1, h2⟩ := run_own_src (P := Try.prog) w B 37 tx o.type 5 i0 (.int .u8 0) 1 1 Try.underlying37 hi hz0 hz1 hz2 rfl (by decide) v L.length (cells8 L) hown.2 u M.length (cells8 M) hsrc.2 (by unfold maxLen; omega) (by omega) hB
  unfold Oper.wp execOp
  simp only [ho, resolve, invoke, builtin, Sem.run_bind, Sem.run_pure, Result.andThen_ok, List.map_toArray, List.map_cons, List.map_nil, hs, hx, hr]
  refine h v' w' ⟨hown.1.app hsrc.1, ?_⟩ ((Below.refl _ _).grown h2 hB (fun k hk => (World.ownsRow.lt hown.2 k hk).1))
  rw [List.length_append, cells8_app]
  exact h1
theorem below_drewN {B : Nat} {a w : World} (h : Below B a w) (n : Nat) : Below B a (w.drewN n) := ⟨h.os, h.tape, h.output, h.size, h.block⟩
theorem Rd.drop {L : List Int} {b off n cap : Nat} {w : World} (h : Rd L (.slice (some ⟨b, off, none⟩) n cap) w) (lo : Nat) (h1 : lo ≤ L.length) (a' : Option Addr) (ha : lo < cap → a' = some ⟨b, off + lo, none⟩) {m c : Nat} (hm : m = n - lo) (hc : c = cap - lo) : Rd (L.drop lo) (.slice a' m c) w := by
  have hn : n = L.length := by
    obtain ⟨_, a, cap', he, _⟩ := h
    simp only [Value.slice.injEq] at he
    exact he.2.1
  have := h.cut lo L.length h1 (Nat.le_refl _) a' ha (m := m) (c := c) (by omega) hc
  rwa [List.take_length] at this
def unfr2 (L : List Int) (S N : Nat) : Int × List Int × Int × Int :=
  if val ((L.take (S + N + 4)).drop (S + N)) ≠ (adlerN (L.take (S + N)) : Nat) then (0, [], 0, 4) else (L.getD 0 0, (L.take (S + N)).drop S, ((S + N + 4 : Nat) : Int), 0)
/-- What is read as a frame: the tag, the body, the bytes that it takes, the error. -/
def unfr (L : List Int) : Int × List Int × Int × Int :=
  if L.length = 0 then (0, [], 0, 3)
  else if (decU (L.drop 1)).2.2 ≠ 0 then (0, [], 0, (decU (L.drop 1)).2.2)
  else if 1048576 < (decU (L.drop 1)).1 then (0, [], 0, 2)
  else if (L.length : Int) < 5 + (decU (L.drop 1)).2.1 + (decU (L.drop 1)).1 then (0, [], 0, 3)
  else unfr2 L (1 + (decU (L.drop 1)).2.1.toNat) (decU (L.drop 1)).1.toNat
end Go.Proofs.Ytjpinnoolnhphaa
