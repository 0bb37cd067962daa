/- The contract of package wire's Unframe. -/
import Derived.Test.YtnlboecmcgjmjaaWireSum
import Derived.Deep.RegionLaw
import Derived.Deep.QuietTactic
import Derived.BigQuiet
namespace Go.Proofs.Ytnlboecmcgjmjaa
open Go.RowKit
set_option linter.unusedVariables false
set_option linter.unusedSimpArgs false
theorem results_tmp4 {fn : Func} {t u v x : Tmp} (h : fn.results = #[.tmp t, .tmp u, .tmp v, .tmp x]) (tmps : Array Value) (P : Program) (w : World) :
    (results fn tmps).run P w = .ok (.tuple #[tmps.getD t undef, tmps.getD u undef, tmps.getD v undef, tmps.getD x undef]) w := by
  simp [results, h]
/-- append, onto bytes of the call's own, as one step of a region that draws its order. -/
theorem step_app {w : World} {ops : Array Oper} {o : Oper} {a : Act} {K : Act → World → Prop} {Q : Exit → Act → World → Prop} {E : Prop} (hgd : o.guard = none) (s x : Operand) (tx : TypeId)
    (ho : o.op = .call { callee := .builtin .append, args := #[s, x], argTypes := #[24, tx] }) (B : Nat) (L M : List Int) (v u : Value) (hs : a.eval s = v) (hx : a.eval x = u)
    (hown : Own B L v w) (hsrc : From M tx u w) (hB : B ≤ w.heap.size) (hn : L.length + M.length ≤ 140737488355328)
    (h : ∀ v' w', Own B (L ++ M) v' w' → Below B w w' → K (a.put o.dst v') w') : if Region.wanted o (yielded ops a.tmps) = true then Oper.wp Try.prog o a w K Q else E := by
  have hw : Region.wanted o (yielded ops a.tmps) = true := by simp [Region.wanted, hgd]
  rw [if_pos hw]
  obtain ⟨i0, hi, hz0, hz1, hz2⟩ := info_parts info_u8
  obtain ⟨v', w', hr, h1, h2⟩ := run_own_src (P := Try.prog) w B 24 tx o.type 5 i0 (.int .u8 0) 1 1 Try.underlying24 hi hz0 hz1 hz2 rfl (by decide) v L.length (cells8 L) hown.2 u M.length (cells8 M) hsrc.2 (by unfold maxLen; omega) (by omega) hB
  unfold Oper.wp execOp
  simp only [ho, resolve, invoke, builtin, Sem.run_bind, Sem.run_pure, Result.andThen_ok, List.map_toArray, List.map_cons, List.map_nil, hs, hx, hr]
  refine h v' w' ⟨hown.1.app hsrc.1, ?_⟩ ((Below.refl _ _).grown h2 hB (fun k hk => (World.ownsRow.lt hown.2 k hk).1))
  rw [List.length_append, cells8_app]
  exact h1
theorem below_drewN {B : Nat} {a w : World} (h : Below B a w) (n : Nat) : Below B a (w.drewN n) := ⟨h.os, h.tape, h.output, h.size, h.block⟩
theorem Rd.drop {L : List Int} {b off n cap : Nat} {w : World} (h : Rd L (.slice (some ⟨b, off, none⟩) n cap) w) (lo : Nat) (h1 : lo ≤ L.length) (a' : Option Addr) (ha : lo < cap → a' = some ⟨b, off + lo, none⟩) {m c : Nat} (hm : m = n - lo) (hc : c = cap - lo) : Rd (L.drop lo) (.slice a' m c) w := by
  have hn : n = L.length := by
    obtain ⟨_, a, cap', he, _⟩ := h
    simp only [Value.slice.injEq] at he
    exact he.2.1
  have := h.cut lo L.length h1 (Nat.le_refl _) a' ha (m := m) (c := c) (by omega) hc
  rwa [List.take_length] at this
def unfr2 (L : List Int) (S N : Nat) : Int × List Int × Int × Int :=
  if val ((L.take (S + N + 4)).drop (S + N)) ≠ (adlerN (L.take (S + N)) : Nat) then (0, [], 0, 4) else (L.getD 0 0, (L.take (S + N)).drop S, ((S + N + 4 : Nat) : Int), 0)
/-- What is read as a frame: the tag, the body, the bytes that it takes, the error. -/
def unfr (L : List Int) : Int × List Int × Int × Int :=
  if L.length = 0 then (0, [], 0, 3)
  else if (decU (L.drop 1)).2.2 ≠ 0 then (0, [], 0, (decU (L.drop 1)).2.2)
  else if 1048576 < (decU (L.drop 1)).1 then (0, [], 0, 2)
  else if (L.length : Int) < 5 + (decU (L.drop 1)).2.1 + (decU (L.drop 1)).1 then (0, [], 0, 3)
  else unfr2 L (1 + (decU (L.drop 1)).2.1.toNat) (decU (L.drop 1)).1.toNat
set_option maxRecDepth 100000 in
set_option maxHeartbeats 1000000 in
theorem unframe_any (L : List Int) (v : Value) (w : World) (h : Rd L v w) :
    Calls Try.prog 25 #[v] w fun e w' => ∃ v', e = .returned (.tuple #[.int .u8 (unfr L).1, v', .int .i64 (unfr L).2.2.1, .int .i64 (unfr L).2.2.2]) ∧ Own w.heap.size (unfr L).2.1 v' w' ∧ Below w.heap.size w w' := by
  have h0 := h
  obtain ⟨hy, a, cap, rfl, h1, h2, h3⟩ := h
  unfold maxLen at h2
  by_cases hl : L.length = 0
  · unfold unfr
    rw [if_pos hl, hl]
    clear h3 h0
    go_enter Try.func25, Try.ntmps25
    go_wp2
    ((try simp only [Exit.inBlock, Exit.then]); refine bodyPost_ret (results_tmp4 rfl _ _ _) rfl ?_)
    exact ⟨_, rfl, Own.empty _ _, Below.refl _ _⟩
  · obtain ⟨b, off, rfl, hb, hcell⟩ := h3 (by omega)
    have hdd := fun (a' : Option Addr) (ha : 1 < cap → a' = some ⟨b, off + 1, none⟩) => decUint_any _ _ w (h0.drop 1 (Nat.one_le_iff_ne_zero.2 hl) a' ha (m := L.length - 1) (c := cap - 1) rfl rfl)
    obtain ⟨b0, b1, b2, b3, b4, b5, b6, b7⟩ := decU_bd (L := L.drop 1) (hy.drop 1)
    have hdl : (L.drop 1).length = L.length - 1 := by simp
    rw [hdl] at b3
    unfold unfr
    rw [if_neg hl]
    generalize (decU (L.drop 1)).1 = n at *
    generalize (decU (L.drop 1)).2.1 = k at *
    generalize (decU (L.drop 1)).2.2 = e at *
    obtain ⟨N, rfl⟩ : ∃ N : Nat, n = (N : Int) := ⟨n.toNat, by omega⟩
    obtain ⟨K, rfl⟩ : ∃ K : Nat, k = (K : Int) := ⟨k.toNat, by omega⟩
    rw [Int.toNat_natCast, Int.toNat_natCast]
    have HR := Lib.hid h0
    have HC := Lib.hid hcell
    clear h0 hcell h3 hdl
    by_cases hc1 : cap = 1
    · subst hc1
      have hd := hdd (some ⟨b, off, none⟩) (fun h => by omega)
      have hl1 : L.length = 1 := by omega
      rw [hl1] at hd b3 ⊢
      have hK : K = 0 := by omega
      subst hK
      clear hdd HR HC
      by_cases he : e = 0
      · exfalso
        have := b7 he
        omega
      · have e0 : (e != 0) = true := by simp [he]
        rw [if_pos he]
        clear b7
        go_enter Try.func25, Try.ntmps25
        go_wp2_with (go_at_call 17; refine hd.mono ?_; rintro e w' ⟨rfl, rfl⟩)
        ((try simp only [Exit.inBlock, Exit.then]); refine bodyPost_ret (results_tmp4 rfl _ _ _) rfl ?_)
        exact ⟨_, rfl, Own.empty _ _, Below.refl _ _⟩
    · have hd := hdd (some ⟨b, off + 1, none⟩) (fun h => rfl)
      clear hdd
      by_cases he : e = 0
      · have e0 : (e != 0) = false := by simp [he]
        rw [if_neg (by simp [he])]
        subst he
        by_cases hn : 1048576 < (N : Int)
        · rw [if_pos hn]
          go_enter Try.func25, Try.ntmps25
          go_wp2_with (go_at_call 17; refine hd.mono ?_; rintro e w' ⟨rfl, rfl⟩)
          ((try simp only [Exit.inBlock, Exit.then]); refine bodyPost_ret (results_tmp4 rfl _ _ _) rfl ?_)
          exact ⟨_, rfl, Own.empty _ _, Below.refl _ _⟩
        · rw [if_neg hn]
          by_cases hc : (L.length : Int) < 5 + K + N
          · rw [if_pos hc]
            go_enter Try.func25, Try.ntmps25
            go_wp2_with (go_at_call 17; refine hd.mono ?_; rintro e w' ⟨rfl, rfl⟩)
            ((try simp only [Exit.inBlock, Exit.then]); refine bodyPost_ret (results_tmp4 rfl _ _ _) rfl ?_)
            exact ⟨_, rfl, Own.empty _ _, Below.refl _ _⟩
          · rw [if_neg hc]
            have hb7 := b7 rfl
            clear b7
            have c0 := HC.out 0 (by omega)
            rw [Nat.add_zero] at c0
            have hcd0 := hy.at_ 0
            have hs3 := HR.out.cut (1 + K + N) (1 + K + N + 4) (by omega) (by omega) (some ⟨b, off + (1 + K + N), none⟩) (fun _ => rfl) (m := 4) (c := cap - (1 + K + N)) (by omega) rfl
            have hs2 := HR.out.cut 0 (1 + K + N) (by omega) (by omega) (some ⟨b, off, none⟩) (fun _ => rfl) (m := 1 + K + N) (c := cap) rfl rfl
            have hs1 := HR.out.cut (1 + K) (1 + K + N) (by omega) (by omega) (some ⟨b, off + (1 + K), none⟩) (fun _ => rfl) (m := N) (c := cap - (1 + K)) (by omega) rfl
            rw [List.drop_zero] at hs2
            have hw := fun n => (wordOf_any _ _ (w.drewN n) (hs3.below (below_drewN (Below.refl _ _) n)) (by simp; omega)).mono fun _ _ h => And.intro h.1 h.2.symm
            have hq := fun n => (sum_any _ _ (w.drewN n) (hs2.below (below_drewN (Below.refl _ _) n))).mono fun _ _ h => And.intro h.1 h.2.symm
            unfold unfr2
            have hB1 : ((L.take (1 + K + N)).drop (1 + K)).length ≤ 70368744177664 := by simp; omega
            generalize (L.take (1 + K + N)).drop (1 + K) = B1 at *
            have hA2 := adlerN_bd (L.take (1 + K + N))
            generalize adlerN (L.take (1 + K + N)) = A2 at *
            generalize val ((L.take (1 + K + N + 4)).drop (1 + K + N)) = V3 at *
            generalize L.getD 0 0 = c at *
            have hwr : IntKind.u64.wrap (A2 : Int) = (A2 : Int) := by rw [IntKind.wrap_u64]; omega
            have hsrc : ∀ ww, Below w.heap.size w ww → From B1 24 (.slice (some ⟨b, off + (1 + K), none⟩) N (cap - (1 + K))) ww := fun ww h => (hs1.below h).src
            have HSR := Lib.hid hsrc
            have HB1 := Lib.hid hB1
            clear hs1 hs2 hs3 hsrc hB1 HR HC
            by_cases hv : V3 = (A2 : Int)
            · have hv2 : (V3 != (A2 : Int)) = false := by simp [hv]
              rw [if_neg (by simp [hv])]
              clear hv
              go_enter Try.func25, Try.ntmps25
              go_wp2_with (go_at_call 17; refine hd.mono ?_; rintro e w' ⟨rfl, rfl⟩)
              go_quiet (first
                | (go_at_call 33; refine Calls.quiet_of_same (hw _))
                | (go_at_call 27; refine Calls.quiet_of_same (hq _)))
              go_wp2_with fail
              clear hw hq hd
              have hbel : Below w.heap.size w (w.drewN nq) := below_drewN (Below.refl _ _) nq
              have HBL := Lib.hid hbel
              have hi0 : (0 : Int) < (L.length : Int) := by omega
              have hi0' : 0 < L.length := by omega
              have ht1 : (1 + (K : Int)).toNat = 1 + K := by omega
              have ht2 : (1 + (K : Int) + (N : Int)).toNat = 1 + K + N := by omega
              have htc : ¬ (cap = 1 + K) := by omega
              have hi1 : (0 : Int) ≤ 1 + (K : Int) := by omega
              have hi2 : 1 + (K : Int) ≤ 1 + (K : Int) + (N : Int) := by omega
              have hi3 : 1 + (K : Int) + (N : Int) ≤ (cap : Int) := by omega
              clear hbel
              go_region_law (refine step_app rfl _ _ _ rfl w.heap.size [] B1 _ _ rfl rfl (Own.empty _ _) ?_ ?_ ?_ ?_; (go_simp; exact HSR.out _ (below_drewN (Below.refl _ _) _)); exact (below_drewN (Below.refl 0 w) (nq + 1)).size; (have := HB1.out; simp; omega); intro v1 w1 ho1 hb1; have HO1 := Lib.hid ho1; have hb1 : Below w.heap.size (w.drewN (nq + 1)) w1 := hb1; have HBB := Lib.hid ((below_drewN (Below.refl _ _) (nq + 1)).trans hb1); have c1 : w1.cell? ⟨b, off, none⟩ = some (.int .u8 c) := (HBB.out.cell hb).trans c0; clear ho1 hb1)
              all_goals go_wp2
              all_goals ((try simp only [Exit.inBlock, Exit.then]); refine bodyPost_ret (results_tmp4 rfl _ _ _) rfl ?_)
              all_goals exact ⟨_, rfl, HO1.out, HBB.out⟩
            · have hv2 : (V3 != (A2 : Int)) = true := by simp [hv]
              rw [if_pos hv]
              clear hv HSR
              go_enter Try.func25, Try.ntmps25
              go_wp2_with (go_at_call 17; refine hd.mono ?_; rintro e w' ⟨rfl, rfl⟩)
              go_quiet (first
                | (go_at_call 33; refine Calls.quiet_of_same (hw _))
                | (go_at_call 27; refine Calls.quiet_of_same (hq _)))
              go_wp2_with fail
              ((try simp only [Exit.inBlock, Exit.then]); refine bodyPost_ret (results_tmp4 rfl _ _ _) rfl ?_)
              exact ⟨_, rfl, Own.empty _ _, below_drewN (Below.refl _ _) nq⟩
      · have e0 : (e != 0) = true := by simp [he]
        rw [if_pos he]
        clear b7
        go_enter Try.func25, Try.ntmps25
        go_wp2_with (go_at_call 17; refine hd.mono ?_; rintro e w' ⟨rfl, rfl⟩)
        ((try simp only [Exit.inBlock, Exit.then]); refine bodyPost_ret (results_tmp4 rfl _ _ _) rfl ?_)
        exact ⟨_, rfl, Own.empty _ _, Below.refl _ _⟩
end Go.Proofs.Ytnlboecmcgjmjaa
