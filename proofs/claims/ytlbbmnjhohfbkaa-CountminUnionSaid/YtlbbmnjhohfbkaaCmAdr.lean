/- The contract of countmin.addresses: a new slice of addresses, one for each row. -/
import Derived.Test.YtlbbmnjhohfbkaaCmMem
namespace Go.Proofs.Ytlbbmnjhohfbkaa
open Go.RowKit
set_option linter.unusedVariables false
set_option linter.unusedSimpArgs false
theorem info_cpx : (Try.prog.info? 68).map (fun i => (i.zero, i.size, i.bytes)) = some (some (.complex .f64 0 0), 1, 16) := by kernel_rfl
theorem owns_below {B : Nat} {e : TypeId} {size : Nat} {v : Value} {n : Nat} {xs : List Value} {w w' : World} (h : w.ownsRow B e size v n xs) (hb : Below w.heap.size w w') : w'.ownsRow B e size v n xs := by
  obtain ⟨h1, h2⟩ := h
  refine ⟨h1, ?_⟩
  rcases h2 with h2 | ⟨g, cap, cur, rfl, hb', hg, r⟩
  · exact .inl h2
  · exact .inr ⟨g, cap, cur, rfl, hb', (hb.block g (Array.getElem?_eq_some_iff.1 hg).1).trans hg, r⟩
/-- The column as a natural number. -/
def colN (x S : Int) (k : ByteArray) (r : Nat) : Nat := (colI x r S k).toNat
theorem colN_eq (x S : Int) (k : ByteArray) (r : Nat) (h : 1 ≤ S) : ((colN x S k r : Nat) : Int) = colI x r S k := by
  have := colI_bd x r S k h
  unfold colN
  omega
/-- The addresses, k of them written. -/
def adrL (x S : Int) (key : ByteArray) (N k : Nat) : List Value := ((List.range k).map fun r => Value.complex .f64 (flN r) (flN (colN x S key r))) ++ List.replicate (N - k) (.complex .f64 0 0)
theorem adrL_len {x S : Int} {key : ByteArray} {N k : Nat} (h : k ≤ N) : (adrL x S key N k).length = N := by simp [adrL]; omega
theorem adrL_at {x S : Int} {key : ByteArray} {N k : Nat} (h : k < N) : (adrL x S key N k)[k]? = some (.complex .f64 0 0) := by
  unfold adrL
  rw [List.getElem?_append_right (by simp), List.length_map, List.length_range, Nat.sub_self, List.getElem?_replicate, if_pos (by omega)]
theorem adrL_set {x S : Int} {key : ByteArray} {N k : Nat} (h : k < N) : (adrL x S key N k).set k (.complex .f64 (flN k) (flN (colN x S key k))) = adrL x S key N (k + 1) := by
  unfold adrL
  have e : N - k = (N - (k + 1)) + 1 := by omega
  rw [List.set_append_right _ _ (by simp), e, List.replicate_succ, List.range_succ]
  simp
theorem adrL_all {x S : Int} {key : ByteArray} {N r : Nat} (h : r < N) : (adrL x S key N N)[r]? = some (.complex .f64 (flN r) (flN (colN x S key r))) := by
  unfold adrL
  rw [List.getElem?_append_left (by simpa using h)]
  simp [h]
/-- Addresses in memory. -/
def Adr (g N : Nat) (x S : Int) (key : ByteArray) (w : World) : Prop := ∀ r, r < N → w.cell? ⟨g, r, none⟩ = some (.complex .f64 (flN r) (flN (colN x S key r)))
set_option maxRecDepth 100000 in
set_option maxHeartbeats 1000000 in
theorem adr_any (N : Nat) (S x : Int) (v : Value) (s : Bool) (key : ByteArray) (w : World) (hv : ∃ a n cap, v = .slice a n cap) (hN : 1 ≤ N ∧ N ≤ 8) (hS : 1 ≤ S ∧ S ≤ 64) (x0 : 0 ≤ x) (x1 : x ≤ 18446744073709551615) (hk : key.size ≤ maxLen) (hkey : keyB (byt key) = true) :
    Calls Try.prog 46 #[.agg #[.int .i64 N, .int .i64 S, .int .u64 x, v, .bool s], .string key] w fun e w' =>
      ∃ g, e = .returned (.slice (some ⟨g, 0, none⟩) N N) ∧ w.heap.size < g ∧ g < w'.heap.size ∧ Adr g N x S key w' ∧ Below w.heap.size w w' := by
  obtain ⟨i0, hi, hz0, hz1, hz2⟩ := info_parts info_cpx
  obtain ⟨a, n, cap, rfl⟩ := hv
  have hcol := fun (r : Nat) (hr : r < N) (w : World) => by
    have h := col_any x r S key w x0 x1 (by omega) (by omega) (by omega) (by omega) hk
    have e1 : colE r S key = 0 := by unfold colE; rw [if_neg (by omega), if_neg (by rw [hkey]; simp)]
    have e2 : colV x r S key = ((colN x S key r : Nat) : Int) := by unfold colV; rw [e1, if_pos rfl, colN_eq x S key r hS.1]
    rw [e1, e2] at h
    exact h
  have HCOL := Lib.hid hcol
  have hcb := fun r => colI_bd x r S key hS.1
  have hcl : ∀ r, colN x S key r < 64 := fun r => by have := colN_eq x S key r hS.1; have := hcb (r : Int); omega
  have hif := fun (n : Nat) w => int_fl n w
  have hby : i0.bytes * N ≤ 281474976710656 := by rw [hz2]; omega
  obtain ⟨N1, N8⟩ := hN
  obtain ⟨S1, S2⟩ := hS
  have hst : ∀ (a : Addr) (p q : Nat) (w : World), (store a (.complex .f64 p q)).run Try.prog w = stored Try.prog w a (.complex .f64 p q) .plain := fun a p q w => run_store _ w a _ _ rfl
  clear hcol hcb hkey
  go_enter Try.func46, Try.ntmps46
  go_wp2_with (at_make; (refine wpList_make_full _ rfl _ _ 66 rfl (w.heap.size + 1) 68 i0 (.complex .f64 0 0) 1 Try.underlying66 hi hz0 hz1 .i64 .i64 N N N rfl rfl rfl rfl hby (by unfold maxLen; omega) (by simp) ?_; intro w1 hown hgrow))
  have hz : ∀ o, (w.alloc o).heap.size = w.heap.size + 1 := fun o => by simp
  rw [hz, show (Value.complex .f64 0 0).cells = #[Value.complex .f64 0 0] from rfl, toList_madeCells_one, Nat.mul_one] at hown
  have hown0 : w1.ownsRow (w.heap.size + 1) 68 1 (.slice (some ⟨w.heap.size + 1, 0, none⟩) N N) N (adrL x S key N 0) := by
    have e : adrL x S key N 0 = List.replicate N (.complex .f64 0 0) := by simp [adrL]
    rw [e]; exact hown
  have HO := Lib.hid hown0
  have HB := Lib.hid (Below.grown (B := w.heap.size + 1) (Below.refl _ _) hgrow (by simp) (fun _ h => by cases h))
  clear hown hown0 hgrow
  go_loopw [6, 7, 8, 14] (fun _ _ _ i wr => ∃ k : Nat, k ≤ N ∧ i = .int .i64 (k : Int) ∧ Hid (wr.ownsRow (w.heap.size + 1) 68 1 (.slice (some ⟨w.heap.size + 1, 0, none⟩) N N) N (adrL x S key N k)) ∧ Hid (Below (w.heap.size + 1) (w.alloc (.cells #[.int .i64 N, .int .i64 S, .int .u64 x, .slice a n cap, .bool s] 26)) wr)) (fun _ _ _ i _ => N - (intOf i).toNat)
  case atStart => exact ⟨0, by omega, rfl, HO, HB⟩
  case round =>
    clear HO HB
    obtain ⟨k, hk, rfl, HO, HB⟩ := hrel
    by_cases hlt : k < N
    · have hcol := HCOL.out k hlt
      have c1 : wr.cell? ⟨w.heap.size, 1, none⟩ = some (.int .i64 S) := (HB.out.cell (p := ⟨w.heap.size, 1, none⟩) (Nat.lt_succ_self _)).trans (by go_simp)
      have c2 : wr.cell? ⟨w.heap.size, 2, none⟩ = some (.int .u64 x) := (HB.out.cell (p := ⟨w.heap.size, 2, none⟩) (Nat.lt_succ_self _)).trans (by go_simp)
      have HSET := Lib.hid (adrL_set (x := x) (S := S) (key := key) hlt)
      have HAT := Lib.hid (adrL_at (x := x) (S := S) (key := key) hlt)
      have hk3 : (k : Int) < (N : Int) := by omega
      have hcl2 := hcl k
      clear hcl
      obtain ⟨c, hc⟩ : ∃ c, colN x S key k = c := ⟨_, rfl⟩
      rw [hc] at hcol HSET hcl2
      clear hc
      go_wp2_with (go_at_call 13; refine (hcol _).mono ?_; rintro e w2 ⟨rfl, hb2⟩; have HO2 := Lib.hid (owns_below HO.out hb2); have HB2 := Lib.hid (HB.out.trans (hb2.mono (by have := HB.out.size; simp at this; omega))); have hcc : w2.cell? ⟨w.heap.size + 1, k, none⟩ = some (.complex .f64 0 0) := (HO2.out.cellAt k (by omega)).trans HAT.out; have hff : w2.frozen? ⟨w.heap.size + 1, k, none⟩ = false := HO2.out.frozenAt k; clear hb2)
      have HO3 := Lib.hid (HO2.out.stored k (.complex .f64 (flN k) (flN c))).1
      rw [HSET.out] at HO3
      have HB3 := Lib.hid (HB2.out.setCell (p := ⟨w.heap.size + 1, k, none⟩) (Nat.le_refl _) (.complex .f64 (flN k) (flN c)))
      go_roundw
      case rel => exact ⟨k + 1, by omega, by go_num, HO3, HB3⟩
      case measure => simp [intOf]; omega
    · obtain rfl : k = N := by omega
      go_wp2
      go_ret
      refine ⟨w.heap.size + 1, rfl, Nat.lt_succ_self _, (World.ownsRow.lt HO.out _ rfl).2, fun r hr => (HO.out.cellAt r (by omega)).trans (adrL_all hr), ?_⟩
      exact (b1 _).trans (HB.out.mono (Nat.le_succ _))
end Go.Proofs.Ytlbbmnjhohfbkaa
