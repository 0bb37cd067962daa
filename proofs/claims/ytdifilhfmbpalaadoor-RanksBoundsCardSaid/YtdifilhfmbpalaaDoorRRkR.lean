/- The contracts of the reference's rank and Rank. -/
import Derived.Test.YtdifilhfmbpalaaDoorRkR
import Derived.Test.YtdifilhfmbpalaaDoorRRVal
import Derived.Test.YtdifilhfmbpalaaDoorItem
namespace Go.Proofs.YtdifilhfmbpalaaDoor
open Go.RowKit
set_option linter.unusedVariables false
set_option linter.unusedSimpArgs false
theorem cntK_take {k : ByteArray} {l : List ByteArray} {j : Nat} (h : j < l.length) : cntK k (l.take (j + 1)) = cntK k (l.take j) + (if lessK k (l.getD j ByteArray.empty) = true then 0 else 1) := by
  rw [take_getD (d := ByteArray.empty) h, cntK_app]
  simp [cntK]
theorem leq_eq (k x : ByteArray) : (Op.bytesLess x.toList k.toList || x.toList == k.toList) = !lessK k x := by
  rw [← gtr_eq]
  cases Op.bytesLess x.toList k.toList <;> cases (x.toList == k.toList) <;> rfl
set_option maxRecDepth 100000 in
set_option maxHeartbeats 2000000 in
theorem rrank_any (t : RK) (v : Value) (k : ByteArray) (w : World) (hv : RdR t v w) (hok : LOk t.L) (hg : ∀ l ∈ t.L, l.length ≤ 31) (hn : t.L.length ≤ 41) (hs : insN 0 t.L ≤ 1099511627776) (hk : k.size ≤ maxLen) :
    Calls Tryd.prog 50 #[v, .string k] w fun e w' => e = .returned (.int .i64 (rnkN k 0 t.L : Nat)) ∧ Below w.heap.size w w' := by
  obtain ⟨S, T, K, L, s⟩ := t
  obtain ⟨a, c, rfl, hr⟩ := hv.run
  clear hv
  dsimp only at hr hok hg hn hs ⊢
  have HR := Lib.hid hr
  have HG := Lib.hid (fun j => getD_all (p := fun l => l.length ≤ 31) hg (Nat.zero_le _) j)
  have HO := Lib.hid hok
  have HT := Lib.hid (fun j => Nat.le_trans (rnkN_take_le (k := k) (L := L) j) (Nat.le_trans (rnkN_le k L 0) hs))
  clear hr hok hg hs
  go_enter Tryd.func50, Tryd.ntmps50
  go_wp2
  have HK0 : Hid ((w.alloc (.cells #[.int .i64 S, .int .i64 T, .int .i64 K, .slice a L.length c, .bool s] 28)).cell? ⟨w.heap.size, 3, none⟩ = some (.slice a L.length c)) := Lib.hid (RsS.new S T K (.slice a L.length c) s 28 w).1.2.2.2.1
  have HB0 : Hid (Below w.heap.size w (w.alloc (.cells #[.int .i64 S, .int .i64 T, .int .i64 K, .slice a L.length c, .bool s] 28))) := Lib.hid (b1 _)
  generalize w.alloc (.cells #[.int .i64 S, .int .i64 T, .int .i64 K, .slice a L.length c, .bool s] 28) = W0 at *
  have hcell := HK0.out
  go_loopw [5, 6] (fun vs vj wr => ∃ j : Nat, j ≤ L.length ∧ vj = .int .i64 (j : Int) ∧ Hid (vs = .int .i64 (rnkN k 0 (L.take j) : Nat)) ∧ W0 = wr) (fun _ vj _ => L.length - (intOf vj).toNat)
  case atStart => exact ⟨0, Nat.zero_le _, rfl, Lib.hid rfl, rfl⟩
  case round =>
    obtain ⟨j, hj, rfl, HX, rfl⟩ := hrel
    have hx := HX.out
    subst hx
    by_cases hlt : j < L.length
    · have hlt2 : (j : Int) < (L.length : Int) := by omega
      obtain ⟨b, off, u, m, c2, rfl, -, hb, hc, hrr, hm⟩ := (HR.out.below HB0.out).at_ hlt
      have hst := rnkN_take (k := k) hlt
      have hbd := HT.out (j + 1)
      have hgl := HG.out j
      subst hm
      generalize L.getD j [] = l at *
      have HRL := Lib.hid hrr
      have hp40 : j ≤ 40 := by omega
      have hcl := cntK_le k l
      have HST := Lib.hid hst
      rw [hst] at hbd
      generalize rnkN k 0 (L.take j) = s0 at *
      clear hst hrr
      go_wp2
      go_loopw [5, 7] (fun vs vi wr => ∃ i : Nat, i ≤ l.length ∧ vi = .int .i64 (i : Int) ∧ Hid (vs = .int .i64 ((s0 + cntK k (l.take i) * 2 ^ j : Nat) : Int)) ∧ W0 = wr) (fun _ vi _ => l.length - (intOf vi).toNat)
      case atStart => exact ⟨0, Nat.zero_le _, rfl, Lib.hid (by simp [cntK]), rfl⟩
      case round =>
        obtain ⟨i, hi, rfl, HY, rfl⟩ := hrel
        have hy := HY.out
        subst hy
        by_cases hli : i < l.length
        · have hli2 : (i : Int) < (l.length : Int) := by omega
          obtain ⟨b3, o3, rfl, -, hd⟩ := HRL.out.cell hli
          have HCT := Lib.hid (cntK_take (k := k) hli)
          have hq1 : cntK k (l.take (i + 1)) ≤ cntK k l := by
            have h := cntK_app k (l.take (i + 1)) (l.drop (i + 1))
            rw [List.take_append_drop] at h
            omega
          have hmul := Nat.mul_le_mul_right (2 ^ j) hq1
          have HQB : Hid (s0 + cntK k (l.take (i + 1)) * 2 ^ j ≤ 1099511627776) := Lib.hid (Nat.le_trans (Nat.add_le_add_left hmul s0) hbd)
          clear hmul hq1
          generalize l.getD i ByteArray.empty = x at *
          have hle := leq_eq k x
          have hsh2 : (0 : Int) ≤ (j : Int) := by omega
          have hshl := wr_mul 1 j (by have := pow40 hp40; omega)
          cases hL : lessK k x
          · rw [hL] at hle HCT
            have hle2 : (Op.bytesLess x.toList k.toList || x.toList == k.toList) = true := hle
            have HC2 : Hid (s0 + cntK k (l.take (i + 1)) * 2 ^ j = s0 + cntK k (l.take i) * 2 ^ j + 1 * 2 ^ j) := Lib.hid (by rw [HCT.out, if_neg (by simp), Nat.add_mul]; omega)
            have hq := HQB.out
            rw [HC2.out] at hq
            generalize s0 + cntK k (l.take i) * 2 ^ j = s1 at *
            have HW : Hid (wrap64 ((s1 : Int) + wrap64 (2 ^ j)) = ((s1 + 1 * 2 ^ j : Nat) : Int)) := Lib.hid (by
              have h1 := wr_pow 0 1 j (by rw [Nat.zero_add, Nat.one_mul]; exact Nat.le_trans (pow40 hp40) (by decide))
              have h2 := wr_pow s1 1 j (Nat.le_trans hq (by decide))
              rw [show (((0 : Nat) : Int) + ((1 : Nat) : Int) * 2 ^ j) = (2 : Int) ^ j by simp, show (((0 + 1 * 2 ^ j : Nat)) : Int) = (2 : Int) ^ j by simp] at h1
              rw [show ((1 : Nat) : Int) * 2 ^ j = (2 : Int) ^ j by simp] at h2
              rw [h1, h2])
            clear hle HCT hq
            go_wp2
            exact ⟨⟨i + 1, by omega, by go_num, Lib.hid (by rw [HC2.out, HW.out]), trivial⟩, by simp [intOf]; omega⟩
          · rw [hL] at hle HCT
            have hle2 : (Op.bytesLess x.toList k.toList || x.toList == k.toList) = false := hle
            have HC2 : Hid (s0 + cntK k (l.take (i + 1)) * 2 ^ j = s0 + cntK k (l.take i) * 2 ^ j) := Lib.hid (by rw [HCT.out, if_pos rfl]; rfl)
            clear hle HCT
            generalize s0 + cntK k (l.take i) * 2 ^ j = s1 at *
            go_wp2
            exact ⟨⟨i + 1, by omega, by go_num, Lib.hid (by rw [HC2.out]), trivial⟩, by simp [intOf]; omega⟩
        · obtain rfl : i = l.length := by omega
          rw [List.take_length]
          go_wp2
          exact ⟨⟨j + 1, by omega, by go_num, Lib.hid (by rw [HST.out]), trivial⟩, by simp [intOf]; omega⟩
    · obtain rfl : j = L.length := by omega
      rw [List.take_length]
      go_wp2
      go_ret
      exact ⟨rfl, HB0.out⟩
end Go.Proofs.YtdifilhfmbpalaaDoor
