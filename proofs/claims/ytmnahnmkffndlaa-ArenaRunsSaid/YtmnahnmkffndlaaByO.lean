/- The contract of sketchstorebase.Bytes: some bytes of the call's own. -/
import Derived.Test.YtmnahnmkffndlaaStepApp
import Derived.Test.YtmnahnmkffndlaaBel
import Derived.RegionTactic
import Derived.OwnWalk
import Derived.StillTailTactics
namespace Go.Proofs.Ytmnahnmkffndlaa
open Go.RowKit
set_option linter.unusedVariables false
set_option linter.unusedSimpArgs false
/-- An own slice with an element: its cells, and what a store leaves. -/
theorem Own.cells {B : Nat} {L : List Int} {a : Option Addr} {n cap : Nat} {w : World} (h : Own B L (.slice a n cap) w) (hp : 0 < L.length) :
    ∃ g, a = some ⟨g, 0, none⟩ ∧ B ≤ g ∧ (∀ j, j < L.length → w.cell? ⟨g, j, none⟩ = some (.int .u8 (L.getD j 0)) ∧ w.frozen? ⟨g, j, none⟩ = false) ∧
      ∀ j c, 0 ≤ c ∧ c ≤ 255 → Own B (L.set j c) (.slice (some ⟨g, 0, none⟩) n cap) (w.setCell ⟨g, j, none⟩ (.int .u8 c)) := by
  obtain ⟨hy, ho⟩ := h
  have h2 := ho.2
  rcases h2 with ⟨he, hn⟩ | ⟨g, cap', cur, he, hb, _⟩
  · omega
  · simp only [Value.slice.injEq] at he
    obtain ⟨rfl, hnl, rfl⟩ := he
    subst hnl
    refine ⟨g, rfl, hb, fun j hj => ⟨(World.ownsRow.cellAt ho j (by omega)).trans (cells8_at hj), World.ownsRow.frozenAt ho j⟩, fun j c hc => ⟨fun x hx => ?_, ?_⟩⟩
    · rcases List.mem_or_eq_of_mem_set hx with h | rfl
      · exact hy x h
      · exact hc
    · have := (World.ownsRow.stored ho j (.int .u8 c)).1
      rw [List.length_set]
      have e : (cells8 L).set j (.int .u8 c) = cells8 (L.set j c) := by simp [cells8, List.map_set]
      rw [e] at this
      exact this
theorem mask4d (n : Int) : bits .and .i64 n 15 = n % 16 := i64_mask 4 (by decide) n
theorem mask6d (n : Int) : bits .and .i64 n 63 = n % 64 := i64_mask 6 (by decide) n
set_option maxRecDepth 100000 in
set_option maxHeartbeats 1000000 in
theorem bytes_own (n : Int) (w : World) (n0 : 0 ≤ n) (n1 : n ≤ 65535) :
    Calls Try.prog 8 #[.int .i64 n] w fun e w' => ∃ L v', L.length ≤ 60 ∧ e = .returned v' ∧ Own w.heap.size L v' w' ∧ Below w.heap.size w w' := by
  have m1 := mask6d (n / 8)
  have m2 := mask4d (n / 512)
  obtain ⟨N, hN⟩ : ∃ N : Nat, n / 8 % 64 % 61 = (N : Int) := ⟨(n / 8 % 64 % 61).toNat, by omega⟩
  have hN60 : N ≤ 60 := by omega
  obtain ⟨y, hy⟩ : ∃ y, IntKind.u8.wrap n = y := ⟨_, rfl⟩
  have hyb : 0 ≤ y ∧ y ≤ 255 := by rw [← hy, IntKind.wrap_u8']; omega
  go_enter Try.func8, Try.ntmps8
  go_wp2
  go_loopw [3, 4] (fun vb i wr => ∃ (k : Nat) (M : List Int), k ≤ N ∧ M.length = k ∧ i = .int .i64 (k : Int) ∧ Hid (Own w.heap.size M vb wr) ∧ Hid (Below w.heap.size w wr)) (fun _ i _ => N - (intOf i).toNat)
  case atStart => exact ⟨0, [], by omega, rfl, rfl, Lib.hid (Own.empty _ _), Lib.hid (Below.refl _ _)⟩
  case round =>
    obtain ⟨k, M, hk, hMk, rfl, HO, HB⟩ := hrel
    have HMK := Lib.hid hMk
    clear hMk
    by_cases hlt : k < N
    · have hki : (k : Int) < (N : Int) := by omega
      have HM2 := Lib.hid (show (M ++ [(k : Int)]).length = k + 1 by rw [List.length_append, HMK.out]; rfl)
      have HMB := Lib.hid (show M.length + 1 ≤ 1000 by rw [HMK.out]; omega)
      obtain ⟨bq, hbq⟩ : ∃ bq, ((k : Int) % 16 == n / 512 % 16) = bq := ⟨_, rfl⟩
      cases bq
      · go_wp2_with (at_builtin; refine wp_app rfl _ (.tmp 16) _ rfl w.heap.size M [(k : Int)] _ _ rfl rfl (HO.out.alloc _) (Own.one ⟨by omega, by omega⟩ wr).rd.src (by have := HB.out.size; simp; omega) (by have := HMB.out; simp; omega) ?_; intro v2 w2 ho hb2; have HO2 := Lib.hid ho; have HB2 := Lib.hid ((bal HB.out _).trans hb2); clear ho hb2)
        go_roundw
        case rel => exact ⟨k + 1, M ++ [(k : Int)], by omega, HM2.out, by go_num, HO2, HB2⟩
        case measure => simp [intOf]; omega
      · have hk1 : (k : Int) < ((k + 1 : Nat) : Int) := by omega
        go_wp2_with (at_builtin; refine wp_app rfl _ (.tmp 16) _ rfl w.heap.size M [(k : Int)] _ _ rfl rfl (HO.out.alloc _) (Own.one ⟨by omega, by omega⟩ wr).rd.src (by have := HB.out.size; simp; omega) (by have := HMB.out; simp; omega) ?_; intro v2 w2 ho hb2; have HO2 := Lib.hid ho; have HB2 := Lib.hid ((bal HB.out _).trans hb2); clear ho hb2; go_loud (obtain ⟨ua, uc, hus⟩ := HO2.out.shape; rw [HM2.out] at hus; subst hus; have hp0 : 0 < (M ++ [(k : Int)]).length := (by rw [HM2.out]; omega); have hpk : k < (M ++ [(k : Int)]).length := (by rw [HM2.out]; omega); have hcs := HO2.out.cells hp0; obtain ⟨g, hg, hgB, hcl, hst⟩ := hcs; subst hg; have hck := hcl k hpk; obtain ⟨hr0, hf0⟩ := hck; clear hp0 hpk; have HST := Lib.hid (hst k y hyb); clear hcl hst))
        go_roundw
        case rel => exact ⟨k + 1, (M ++ [(k : Int)]).set k y, by omega, by rw [List.length_set, HM2.out], by go_num, HST, Lib.hid (bset HB2.out _ _ _ hgB)⟩
        case measure => simp [intOf]; omega
    · obtain rfl : k = N := by omega
      go_wp2
      go_ret
      exact ⟨M, _, by have := HMK.out; omega, rfl, HO.out, HB.out⟩
end Go.Proofs.Ytmnahnmkffndlaa
