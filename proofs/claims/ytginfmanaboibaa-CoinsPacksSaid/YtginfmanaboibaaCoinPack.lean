/- The contracts of coins.Pack and of the reference's. -/
import Derived.Test.YtginfmanaboibaaCoins
import Derived.Deep.RegionWith
namespace Go.Proofs.Ytginfmanaboibaa
open Go.RowKit
set_option linter.unusedVariables false
set_option linter.unusedSimpArgs false
/-- A slice of ints that can be read. -/
def RdI (Z : List Int) (v : Value) (w : World) : Prop :=
  (∀ n ∈ Z, -9223372036854775808 ≤ n ∧ n ≤ 9223372036854775807) ∧ ∃ a cap, v = .slice a Z.length cap ∧ Z.length ≤ cap ∧ cap ≤ maxLen ∧ (0 < Z.length → ∃ b off, a = some ⟨b, off, none⟩ ∧ b < w.heap.size ∧ ∀ j, j < Z.length → w.cell? ⟨b, off + j, none⟩ = some (.int .i64 (Z.getD j 0)))
theorem RdI.below {L : List Int} {v : Value} {w w' : World} (h : RdI L v w) (hb : Below w.heap.size w w') : RdI L v w' := by
  obtain ⟨hy, a, cap, rfl, h1, h2, h3⟩ := h
  refine ⟨hy, a, cap, rfl, h1, h2, fun hp => ?_⟩
  obtain ⟨b, off, rfl, hlt, hc⟩ := h3 hp
  exact ⟨b, off, rfl, Nat.lt_of_lt_of_le hlt hb.size, fun j hj => (hb.cell (p := ⟨b, off + j, none⟩) hlt).trans (hc j hj)⟩
theorem RdI.at_ {Z : List Int} {v : Value} {w : World} (h : RdI Z v w) (k : Nat) : -9223372036854775808 ≤ Z.getD k 0 ∧ Z.getD k 0 ≤ 9223372036854775807 := by
  by_cases hk : k < Z.length
  · have := h.1 Z[k] (List.getElem_mem hk)
    simpa [List.getD, hk] using this
  · simp [List.getD, List.getElem?_eq_none (Nat.le_of_not_lt hk)]
section
variable {w : World}
/-- 'make([]byte, n)': zeros of the call's own. -/
theorem wp_make0 {ops : Array Oper} {rest : List Oper} {o : Oper} {a : Act} {Q : Exit → Act → World → Prop} (hgd : o.guard = none) (l c : Operand)
    (ho : o.op = Op.makeSlice 22 l c) (N : Nat) (hl : a.eval l = .int .i64 (N : Int)) (hc : a.eval c = .int .i64 (N : Int)) (hN : N ≤ 281474976710656)
    (h : ∀ w' : World, Own w.heap.size (List.replicate N 0) (.slice (some ⟨w.heap.size, 0, none⟩) N N) w' → Below w.heap.size w w' → wpList Try.prog ops Q rest (a.put o.dst (.slice (some ⟨w.heap.size, 0, none⟩) N N)) w') : wpList Try.prog ops Q (o :: rest) a w := by
  obtain ⟨i0, hi, hz0, hz1, hz2⟩ := info_parts info_u8
  refine wpList_make_full w hgd l c 22 ho w.heap.size 5 i0 (.int .u8 0) 1 Try.underlying22 hi hz0 hz1 .i64 .i64 N N N hl hc rfl rfl (by rw [hz2]; omega) (by unfold maxLen; omega) (Nat.le_refl _) ?_
  intro w1 hown hgrow
  refine h w1 ⟨fun n hn => ?_, ?_⟩ ((Below.refl _ _).grown hgrow (Nat.le_refl _) (fun _ h => by cases h))
  · rw [List.eq_of_mem_replicate hn]; omega
  · rw [show (Value.int .u8 0).cells = #[Value.int .u8 0] from rfl, toList_madeCells_one, Nat.mul_one] at hown
    have e : cells8 (List.replicate N 0) = List.replicate N (Value.int .u8 0) := by simp [cells8]
    rw [e, List.length_replicate]
    exact hown
end
/-- An own slice with an element: its cells, and what a store leaves. -/
theorem Own.cells {B : Nat} {L : List Int} {a : Option Addr} {n cap : Nat} {w : World} (h : Own B L (.slice a n cap) w) (hp : 0 < L.length) :
    ∃ g, a = some ⟨g, 0, none⟩ ∧ B ≤ g ∧ (∀ j, j < L.length → w.cell? ⟨g, j, none⟩ = some (.int .u8 (L.getD j 0)) ∧ w.frozen? ⟨g, j, none⟩ = false) ∧
      ∀ j c, 0 ≤ c ∧ c ≤ 255 → Own B (L.set j c) (.slice (some ⟨g, 0, none⟩) n cap) (w.setCell ⟨g, j, none⟩ (.int .u8 c)) := by
  obtain ⟨hy, ho⟩ := h
  have h2 := ho.2
  rcases h2 with ⟨he, hn⟩ | ⟨g, cap', cur, he, hb, _⟩
  · omega
  · simp only [Value.slice.injEq] at he
    obtain ⟨rfl, hnl, rfl⟩ := he
    subst hnl
    refine ⟨g, rfl, hb, fun j hj => ⟨(World.ownsRow.cellAt ho j (by omega)).trans (cells8_at hj), World.ownsRow.frozenAt ho j⟩, fun j c hc => ⟨fun x hx => ?_, ?_⟩⟩
    · rcases List.mem_or_eq_of_mem_set hx with h | rfl
      · exact hy x h
      · exact hc
    · have := (World.ownsRow.stored ho j (.int .u8 c)).1
      rw [List.length_set]
      have e : (cells8 L).set j (.int .u8 c) = cells8 (L.set j c) := by simp [cells8, List.map_set]
      rw [e] at this
      exact this
theorem pk_zero {Z : List Int} {N k : Nat} (h : Z.getD k 0 = 0) : pk Z N (k + 1) = pk Z N k := by rw [pk, if_pos h]
theorem pk_one {Z : List Int} {N k : Nat} (h : ¬ Z.getD k 0 = 0) : pk Z N (k + 1) = (pk Z N k).set (k / 8) (bits .or .u8 ((pk Z N k).getD (k / 8) 0) (IntKind.u8.wrap (2 ^ (7 - k % 8)))) := by rw [pk, if_neg h]
set_option maxRecDepth 100000 in
set_option maxHeartbeats 1000000 in
theorem pack_any (Z : List Int) (v : Value) (w : World) (hl : Z.length ≤ 1000) (h : RdI Z v w) :
    Calls Try.prog 10 #[v] w fun e w' => ∃ v', e = .returned v' ∧ Own w.heap.size (pk Z ((Z.length + 7) / 8) Z.length) v' w' ∧ Below w.heap.size w w' := by
  have HA := Lib.hid (fun k => h.at_ k)
  obtain ⟨hy, a, cap, rfl, h1, h2, h3⟩ := h
  have HC := Lib.hid h3
  have hq : ((Z.length : Int) + 8 - 1) / 8 = (((Z.length + 7) / 8 : Nat) : Int) := by omega
  have HN := Lib.hid (show (Z.length + 7) / 8 = (Z.length + 7) / 8 from rfl)
  have hn : (Z.length + 7) / 8 ≤ 126 := by omega
  have HPL := Lib.hid (pk_len Z ((Z.length + 7) / 8))
  have HPB := Lib.hid (pk_byt Z ((Z.length + 7) / 8))
  have HP0 := Lib.hid (show pk Z ((Z.length + 7) / 8) 0 = List.replicate ((Z.length + 7) / 8) 0 from rfl)
  have HK := Lib.hid (fun k (h : k < Z.length) => (by omega : k / 8 < (Z.length + 7) / 8))
  obtain ⟨N, HNN⟩ : ∃ N, N = (Z.length + 7) / 8 := ⟨_, rfl⟩
  rw [← HNN] at hq hn HPL HPB HP0 HK ⊢
  have HQV := Lib.hid (show Value.int .i64 (((Z.length : Int) + 8 - 1) / 8) = .int .i64 (N : Int) by rw [hq])
  clear h3 hy hq HNN HN
  go_enter Try.func10, Try.ntmps10
  go_wp2_with (at_make; (refine wp_make0 rfl _ _ rfl N HQV.out HQV.out (by omega) ?_; intro w1 o1 b1; rw [← HP0.out] at o1; have O1 := Lib.hid o1; have B1 := Lib.hid b1; clear o1 b1))
  go_loopw [4, 5, 14] (fun _ _ i wr => ∃ k : Nat, k ≤ Z.length ∧ i = .int .i64 (k : Int) ∧ Hid (Own w.heap.size (pk Z N k) (.slice (some ⟨w.heap.size, 0, none⟩) N N) wr) ∧ Hid (Below w.heap.size w wr)) (fun _ _ i _ => Z.length - (intOf i).toNat)
  case atStart => exact ⟨0, by omega, rfl, O1, B1⟩
  case round =>
    obtain ⟨k, hk, rfl, HO, HB⟩ := hrel
    clear O1 B1
    by_cases hlt : k < Z.length
    · obtain ⟨b, off, rfl, hb, hcell⟩ := HC.out (by omega)
      have hc := (HB.out.cell (p := ⟨b, off + k, none⟩) hb).trans (hcell k hlt)
      have hbd := HA.out k
      have HZ0 := Lib.hid (fun h => pk_zero (Z := Z) (N := N) (k := k) h)
      have HZ1 := Lib.hid (fun h => pk_one (Z := Z) (N := N) (k := k) h)
      clear hcell
      generalize Z.getD k 0 = z at *
      have hNp : 0 < N := by have := HK.out k hlt; omega
      obtain ⟨g, hge, hgB, hcl, hst⟩ := HO.out.cells (by rw [HPL.out]; exact hNp)
      obtain rfl : w.heap.size = g := by simpa using hge
      by_cases hz : z = 0
      · subst hz
        clear hcl hst hge
        go_wp2
        go_roundw
        case rel => exact ⟨k + 1, by omega, by go_num, Lib.hid (by rw [HZ0.out rfl]; exact HO.out), HB⟩
        case measure => simp [intOf]; omega
      · have hk8 := HK.out k hlt
        obtain ⟨hr, hf⟩ := hcl (k / 8) (by rw [HPL.out]; exact hk8)
        have hpb := (HPB.out k).at_ (k / 8)
        have hor := or8 ((pk Z N k).getD (k / 8) 0) (7 - k % 8) hpb.1 hpb.2 (by omega)
        have hs := hst (k / 8) _ ⟨hor.1, hor.2.1⟩
        rw [← HZ1.out hz] at hs
        rw [IntKind.wrap_u8'] at hs
        have HS := Lib.hid hs
        have hz' : (z != 0) = true := by simpa using hz
        have hp7 : 7 - k % 8 ≤ 7 := by omega
        have hp := fun w => place_any k w (by omega)
        have hwr : IntKind.i64.wrap ((k / 8 : Nat) : Int) = ((k / 8 : Nat) : Int) := by rw [IntKind.wrap_i64]; omega
        have hq1 : k / 8 ≤ 1000 := by omega
        have hq2 : (k : Int) / 8 = ((k / 8 : Nat) : Int) := by omega
        have hq3 : ((k / 8 : Nat) : Int) < (N : Int) := by omega
        have HBS := Lib.hid (HB.out.setCell (p := ⟨w.heap.size, k / 8, none⟩) hgB)
        clear hcl hst hge hs hor HZ0 HZ1 hz
        generalize (pk Z N k).getD (k / 8) 0 = t at *
        generalize 7 - k % 8 = p at *
        generalize k / 8 = d at *
        go_wp2
        go_region_with (go_at_call 14; refine (hp _).mono ?_; rintro e w' ⟨rfl, rfl⟩)
        all_goals
          go_wp2
          go_roundw
          case rel => exact ⟨k + 1, by omega, by go_num, HS, Lib.hid (below_drew (HBS.out _))⟩
          case measure => simp [intOf]; omega
    · obtain rfl : k = Z.length := by omega
      go_wp2
      go_ret
      exact ⟨_, rfl, HO.out, HB.out⟩
set_option maxRecDepth 100000 in
set_option maxHeartbeats 1000000 in
theorem rpack_any (Z : List Int) (v : Value) (w : World) (hl : Z.length ≤ 1000) (h : RdI Z v w) :
    Calls Try.prog 11 #[v] w fun e w' => ∃ v', e = .returned v' ∧ Own w.heap.size (pk Z ((Z.length + 7) / 8) Z.length) v' w' ∧ Below w.heap.size w w' := by
  have HA := Lib.hid (fun k => h.at_ k)
  obtain ⟨hy, a, cap, rfl, h1, h2, h3⟩ := h
  have HC := Lib.hid h3
  have hq : ((Z.length : Int) + 7) / 8 = (((Z.length + 7) / 8 : Nat) : Int) := by omega
  have HN := Lib.hid (show (Z.length + 7) / 8 = (Z.length + 7) / 8 from rfl)
  have hn : (Z.length + 7) / 8 ≤ 126 := by omega
  have HPL := Lib.hid (pk_len Z ((Z.length + 7) / 8))
  have HPB := Lib.hid (pk_byt Z ((Z.length + 7) / 8))
  have HP0 := Lib.hid (show pk Z ((Z.length + 7) / 8) 0 = List.replicate ((Z.length + 7) / 8) 0 from rfl)
  have HK := Lib.hid (fun k (h : k < Z.length) => (by omega : k / 8 < (Z.length + 7) / 8))
  obtain ⟨N, HNN⟩ : ∃ N, N = (Z.length + 7) / 8 := ⟨_, rfl⟩
  rw [← HNN] at hq hn HPL HPB HP0 HK ⊢
  have HQV := Lib.hid (show Value.int .i64 (((Z.length : Int) + 7) / 8) = .int .i64 (N : Int) by rw [hq])
  clear h3 hy hq HNN HN
  go_enter Try.func11, Try.ntmps11
  go_wp2_with (at_make; (refine wp_make0 rfl _ _ rfl N HQV.out HQV.out (by omega) ?_; intro w1 o1 b1; rw [← HP0.out] at o1; have O1 := Lib.hid o1; have B1 := Lib.hid b1; clear o1 b1))
  go_loopw [4] (fun i wr => ∃ k : Nat, k ≤ Z.length ∧ i = .int .i64 (k : Int) ∧ Hid (Own w.heap.size (pk Z N k) (.slice (some ⟨w.heap.size, 0, none⟩) N N) wr) ∧ Hid (Below w.heap.size w wr)) (fun i _ => Z.length - (intOf i).toNat)
  case atStart => exact ⟨0, by omega, rfl, O1, B1⟩
  case round =>
    obtain ⟨k, hk, rfl, HO, HB⟩ := hrel
    clear O1 B1
    by_cases hlt : k < Z.length
    · obtain ⟨b, off, rfl, hb, hcell⟩ := HC.out (by omega)
      have hc := (HB.out.cell (p := ⟨b, off + k, none⟩) hb).trans (hcell k hlt)
      have hbd := HA.out k
      have HZ0 := Lib.hid (fun h => pk_zero (Z := Z) (N := N) (k := k) h)
      have HZ1 := Lib.hid (fun h => pk_one (Z := Z) (N := N) (k := k) h)
      clear hcell
      generalize Z.getD k 0 = z at *
      have hNp : 0 < N := by have := HK.out k hlt; omega
      obtain ⟨g, hge, hgB, hcl, hst⟩ := HO.out.cells (by rw [HPL.out]; exact hNp)
      obtain rfl : w.heap.size = g := by simpa using hge
      by_cases hz : z = 0
      · subst hz
        clear hcl hst hge
        go_wp2
        go_roundw
        case rel => exact ⟨k + 1, by omega, by go_num, Lib.hid (by rw [HZ0.out rfl]; exact HO.out), HB⟩
        case measure => simp [intOf]; omega
      · have hk8 := HK.out k hlt
        obtain ⟨hr, hf⟩ := hcl (k / 8) (by rw [HPL.out]; exact hk8)
        have hpb := (HPB.out k).at_ (k / 8)
        have hor := or8 ((pk Z N k).getD (k / 8) 0) (7 - k % 8) hpb.1 hpb.2 (by omega)
        have hs := hst (k / 8) _ ⟨hor.1, hor.2.1⟩
        rw [← HZ1.out hz] at hs
        rw [IntKind.wrap_u8'] at hs
        have HS := Lib.hid hs
        have hz' : (z != 0) = true := by simpa using hz
        have hp7 : 7 - k % 8 ≤ 7 := by omega
        have hp9 : 7 - (k : Int) % 8 = ((7 - k % 8 : Nat) : Int) := by omega
        have hq1 : k / 8 ≤ 1000 := by omega
        have hq2 : (k : Int) / 8 = ((k / 8 : Nat) : Int) := by omega
        have hq3 : ((k / 8 : Nat) : Int) < (N : Int) := by omega
        have HBS := Lib.hid (HB.out.setCell (p := ⟨w.heap.size, k / 8, none⟩) hgB)
        clear hcl hst hge hs hor HZ0 HZ1 hz
        generalize (pk Z N k).getD (k / 8) 0 = t at *
        generalize 7 - k % 8 = p at *
        generalize k / 8 = d at *
        go_wp2
        go_roundw
        case rel => exact ⟨k + 1, by omega, by go_num, HS, Lib.hid (HBS.out _)⟩
        case measure => simp [intOf]; omega
    · obtain rfl : k = Z.length := by omega
      go_wp2
      go_ret
      exact ⟨_, rfl, HO.out, HB.out⟩
end Go.Proofs.Ytginfmanaboibaa
