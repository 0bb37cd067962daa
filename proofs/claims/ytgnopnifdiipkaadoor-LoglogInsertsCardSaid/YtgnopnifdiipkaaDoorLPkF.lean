/- The contracts of loglog.pack and of the methods raise and unpack of its arrays. -/
import Derived.Test.YtgnopnifdiipkaaDoorLPk
import Derived.Test.YtgnopnifdiipkaaDoorRLNew
import Derived.Test.YtgnopnifdiipkaaDoorStepApp
import Derived.Test.YtgnopnifdiipkaaDoorSameI
namespace Go.Proofs.YtgnopnifdiipkaaDoor
open Go.RowKit
set_option linter.unusedVariables false
set_option linter.unusedSimpArgs false
/-- The first k registers as bytes, and zeros. -/
def padK (L : List Int) (k : Nat) : List Int := L.take k ++ List.replicate (256 - k) 0
theorem padK_zero (L : List Int) : padK L 0 = zero256 := by unfold padK zero256; rw [List.take_zero, List.nil_append]
theorem padK_len {L : List Int} {k : Nat} (hk : k ≤ L.length) (hl : L.length ≤ 256) : (padK L k).length = 256 := by
  unfold padK
  rw [List.length_append, List.length_take, List.length_replicate]
  omega
theorem padK_set {L : List Int} {k : Nat} (hk : k < L.length) (hl : L.length ≤ 256) : (padK L k).set k (L.getD k 0) = padK L (k + 1) := by
  unfold padK
  have e : 256 - k = (256 - (k + 1)) + 1 := by omega
  have ht : (L.take k).length = k := by rw [List.length_take]; omega
  rw [e, List.replicate_succ, List.set_append, ht, if_neg (Nat.lt_irrefl _), Nat.sub_self, List.set_cons_zero, take_snoc L k hk, List.append_assoc]
  rfl
theorem padK_take {L : List Int} (hl : L.length ≤ 256) : (padK L L.length).take L.length = L := by
  unfold padK
  rw [List.take_length, List.take_append_of_le_length (Nat.le_refl _), List.take_length]
theorem padK_at {L : List Int} {j : Nat} (hj : j < L.length) : (padK L L.length).getD j 0 = L.getD j 0 := by
  unfold padK
  rw [List.take_length]
  simp [List.getD, List.getElem?_append_left hj]
theorem padK_out {L : List Int} {j : Nat} (hj : ¬ j < L.length) : (padK L L.length).getD j 0 = 0 := by
  unfold padK
  rw [List.take_length]
  simp only [List.getD]
  rw [List.getElem?_append_right (Nat.le_of_not_lt hj), List.getElem?_replicate]
  split <;> rfl
theorem padK_byt {L : List Int} {k : Nat} (h : ∀ j, 0 ≤ L.getD j 0 ∧ L.getD j 0 ≤ 255) : Byt (padK L k) := fun n hn => by
  unfold padK at hn
  rcases List.mem_append.1 hn with h' | h'
  · obtain ⟨j, hj, rfl⟩ := List.getElem_of_mem (List.mem_of_mem_take h')
    have := h j
    simpa [List.getD, hj] using this
  · rw [List.eq_of_mem_replicate h']
    omega
set_option maxRecDepth 100000 in
set_option maxHeartbeats 1000000 in
theorem lpack_any (P x : Int) (L : List Int) (a : Option Addr) (n cap : Nat) (w : World) (hR : RdI L (.slice a n cap) w) (hl : L.length ≤ 256) (hb : ∀ j, 0 ≤ L.getD j 0 ∧ L.getD j 0 ≤ 255) :
    Calls Tryd.prog 44 #[.agg #[.int .i64 P, .int .u64 x, .slice a n cap]] w fun e w' => e = .returned (.agg (pkA (padK L L.length))) ∧ Below w.heap.size w w' := by
  obtain ⟨a', cap', he⟩ := hR.shape
  simp only [Value.slice.injEq] at he
  obtain ⟨rfl, rfl, rfl⟩ := he
  have HR := Lib.hid hR
  have HB := Lib.hid hb
  have HSET := Lib.hid (fun k (hk : k < L.length) => padK_set hk hl)
  have HZ := Lib.hid (padK_zero L)
  have HPL := Lib.hid (padK_len (Nat.le_refl L.length) hl)
  have HPB := Lib.hid (padK_byt (k := L.length) hb)
  have hz : ∀ (w : World) o, (w.alloc o).heap.size = w.heap.size + 1 := fun w o => by simp
  have C0 := Lib.hid (((LSt.new P x (.slice a L.length cap) 26 w).below (b1 (.cells Tryd.zeroCells68 68)) (by simp)).below (b1 (.cells Tryd.zeroCells68 68)) (by simp; omega))
  have K0 := Lib.hid (show PkAt (w.heap.size + 1) zero256 (((w.alloc (.cells #[.int .i64 P, .int .u64 x, .slice a L.length cap] 26)).alloc (.cells Tryd.zeroCells68 68)).alloc (.cells Tryd.zeroCells68 68)) from by
    have h := PkAt.new (w.alloc (.cells #[.int .i64 P, .int .u64 x, .slice a L.length cap] 26))
    rw [hz] at h
    exact h.below (b1 _) (by simp))
  have J0 := Lib.hid (show PkAt (w.heap.size + 1 + 1) (padK L 0) (((w.alloc (.cells #[.int .i64 P, .int .u64 x, .slice a L.length cap] 26)).alloc (.cells Tryd.zeroCells68 68)).alloc (.cells Tryd.zeroCells68 68)) from by
    have h := PkAt.new ((w.alloc (.cells #[.int .i64 P, .int .u64 x, .slice a L.length cap] 26)).alloc (.cells Tryd.zeroCells68 68))
    rw [hz, hz] at h
    rw [HZ.out]
    exact h)
  have B0 := Lib.hid (b3 (a := w) (.cells #[.int .i64 P, .int .u64 x, .slice a L.length cap] 26) (.cells Tryd.zeroCells68 68) (.cells Tryd.zeroCells68 68))
  clear hR hb
  go_enter Tryd.func44, Tryd.ntmps44
  go_wp2_with fail
  go_loopw [9] (fun i wr => ∃ k : Nat, k ≤ L.length ∧ i = .int .i64 (k : Int) ∧ Hid (LSt w.heap.size P x (.slice a L.length cap) wr) ∧ Hid (PkAt (w.heap.size + 1) zero256 wr) ∧ Hid (PkAt (w.heap.size + 1 + 1) (padK L k) wr) ∧ Hid (Below w.heap.size w wr)) (fun i _ => L.length - (intOf i).toNat)
  case atStart => exact ⟨0, by omega, rfl, C0, K0, J0, B0⟩
  case round =>
    clear C0 K0 J0 B0
    obtain ⟨k, hk, rfl, HC, HK, HJ, HW⟩ := hrel
    obtain ⟨⟨p0, p1, p2⟩, -⟩ := HC.out
    by_cases hlt : k < L.length
    · obtain ⟨_, b, off, rfl, hb, hc⟩ := HR.out.cellAt HW.out hlt
      have hz := HB.out k
      have HS1 := Lib.hid (HSET.out k hlt)
      have hkI : (k : Int) < (L.length : Int) := by omega
      have hk2 : (k : Int) < 256 := by omega
      obtain ⟨hcc, hcf⟩ := HJ.out.cell (j := k) (by omega)
      have HJ1 := Lib.hid (HJ.out.set k hz)
      rw [HS1.out] at HJ1
      have hcv : IntKind.u8.wrap (L.getD k 0) = L.getD k 0 := by rw [IntKind.wrap_u8]; omega
      have HC1 := Lib.hid (HC.out.far (b := w.heap.size + 1 + 1) (by omega) k (.int .u8 (L.getD k 0)))
      have HK1 := Lib.hid (HK.out.far (k := w.heap.size + 1 + 1) (by omega) k (.int .u8 (L.getD k 0)))
      have HW1 := Lib.hid (bset HW.out (w.heap.size + 1 + 1) k (.int .u8 (L.getD k 0)) (by omega))
      generalize L.getD k 0 = z at *
      go_wp2
      go_roundw
      case rel => exact ⟨k + 1, by omega, by go_num, HC1, HK1, HJ1, HW1⟩
      case measure => simp [intOf]; omega
    · obtain rfl : k = L.length := by omega
      go_wp2_with (first
        | (refine wp_load_pk rfl _ rfl (w.heap.size + 1 + 1) rfl HJ.out ?_)
        | (refine wp_store_pk rfl _ _ rfl (w.heap.size + 1) rfl HK.out rfl HPB.out HPL.out ?_; intro w5 hp5 ho5; have HP5 := Lib.hid hp5; have HB5 := Lib.hid (HW.out.trans (ho5.1.mono (Nat.le_succ _))); clear hp5 ho5))
      refine bodyPost_ret (v := .agg (pkA (padK L L.length))) (res_pk rfl _ _ (w.heap.size + 1) rfl HP5.out) rfl ⟨rfl, HB5.out⟩
set_option maxRecDepth 100000 in
set_option maxHeartbeats 1000000 in
theorem lraise_any (g k : Nat) (z : Int) (Z : List Int) (w : World) (h : PkAt g Z w) (hk : k < 256) (hz : 0 ≤ z ∧ z ≤ 255) :
    Calls Tryd.prog 45 #[.pointer (some ⟨g, 0, none⟩), .int .i64 (k : Int), .int .u8 z] w fun e w' => e = .returned (.tuple #[]) ∧ PkAt g (Z.set k (max (Z.getD k 0) z)) w' ∧ Oth g w w' := by
  obtain ⟨hc, hf⟩ := h.cell hk
  have hy := Byt.at_ h.byt k
  have hk1 : (k : Int) < 256 := by omega
  have hk0 : (0 : Int) ≤ (k : Int) := by omega
  have HS := Lib.hid (fun y (hy : 0 ≤ y ∧ y ≤ 255) => h.set k hy)
  have HO := Lib.hid (fun y => oneCells_set g k w (.int .u8 y))
  clear h
  generalize Z.getD k 0 = q at *
  obtain ⟨y, hm⟩ : ∃ y, max q z = y := ⟨_, rfl⟩
  rw [hm]
  have HD := Lib.hid (show 0 ≤ y ∧ y ≤ 255 by omega)
  rcases Int.lt_or_le q z with hq | hq
  · obtain rfl : y = z := by omega
    have HM := Lib.hid hm
    clear hm
    go_enter Tryd.func45, Tryd.ntmps45
    go_big_region
    go_wp2
    go_end0
    rw [HM.out]
    exact ⟨rfl, (HS.out _ HD.out).drew, (HO.out _).1.drew, (HO.out _).2⟩
  · obtain rfl : y = q := by omega
    have HM := Lib.hid hm
    clear hm
    go_enter Tryd.func45, Tryd.ntmps45
    go_big_region
    go_wp2
    go_end0
    rw [HM.out]
    exact ⟨rfl, (HS.out _ HD.out).drew, (HO.out _).1.drew, (HO.out _).2⟩
/-- The registers unpacked so far: k of n. -/
def unpK (Z : List Int) (n k : Nat) : List Int := Z.take k ++ List.replicate (n - k) 0
theorem unpK_zero (Z : List Int) (n : Nat) : unpK Z n 0 = List.replicate n 0 := by unfold unpK; rw [List.take_zero, List.nil_append, Nat.sub_zero]
theorem unpK_len {Z : List Int} {n k : Nat} (hk : k ≤ n) (hn : n ≤ Z.length) : (unpK Z n k).length = n := by
  unfold unpK
  rw [List.length_append, List.length_take, List.length_replicate]
  omega
theorem unpK_set {Z : List Int} {n k : Nat} (hk : k < n) (hn : n ≤ Z.length) : (unpK Z n k).set k (Z.getD k 0) = unpK Z n (k + 1) := by
  unfold unpK
  have e : n - k = (n - (k + 1)) + 1 := by omega
  have ht : (Z.take k).length = k := by rw [List.length_take]; omega
  rw [e, List.replicate_succ, List.set_append, ht, if_neg (Nat.lt_irrefl _), Nat.sub_self, List.set_cons_zero, take_snoc Z k (by omega), List.append_assoc]
  rfl
theorem unpK_all (Z : List Int) (n : Nat) : unpK Z n n = Z.take n := by unfold unpK; rw [Nat.sub_self, List.replicate_zero, List.append_nil]
set_option maxRecDepth 100000 in
set_option maxHeartbeats 1000000 in
theorem lunpack_any (P : Int) (g : Nat) (Z : List Int) (w : World) (h : PkAt g Z w) (hP : 2 ≤ P ∧ P ≤ 8) :
    Calls Tryd.prog 46 #[.pointer (some ⟨g, 0, none⟩), .int .i64 P] w fun e w' => ∃ v, e = .returned v ∧ OwnI w.heap.size (Z.take (llN P)) v w' ∧ Below w.heap.size w w' := by
  have hM := llN_bd hP
  have hw := wrapN hP
  have HZL := Lib.hid h.1.2
  have HH := Lib.hid h
  have HY := Lib.hid (fun j => Byt.at_ h.byt j)
  generalize llN P = M at *
  have HQ := Lib.hid (show Value.int .i64 (wrap64 (2 ^ P.toNat)) = .int .i64 (M : Int) by rw [hw])
  obtain ⟨hM0, hM1⟩ := hM
  have HSET := Lib.hid (fun k (hk : k < M) => unpK_set (Z := Z) hk (by have := HZL.out; omega))
  have HLEN := Lib.hid (fun k (hk : k ≤ M) => unpK_len (Z := Z) hk (by have := HZL.out; omega))
  have HALL := Lib.hid (unpK_all Z M)
  have HZER := Lib.hid (unpK_zero Z M)
  obtain ⟨hP0, hP1⟩ := hP
  clear hw h
  go_enter Tryd.func46, Tryd.ntmps46
  go_wp2_with (at_make; (refine wp_makeI rfl _ _ rfl M HQ.out HQ.out (by omega) ?_; intro w1 o1 hb1 hlt; have O1 : Hid (OwnI w.heap.size (unpK Z M 0) (.slice (some ⟨w.heap.size, 0, none⟩) M M) w1) := Lib.hid (by rw [HZER.out]; exact o1); have B1 := Lib.hid hb1; have K1 := Lib.hid (HH.out.go hb1); clear o1 hb1))
  go_loopw [12] (fun i wr => ∃ k : Nat, k ≤ M ∧ i = .int .i64 (k : Int) ∧ Hid (OwnI w.heap.size (unpK Z M k) (.slice (some ⟨w.heap.size, 0, none⟩) M M) wr) ∧ Hid (PkAt g Z wr) ∧ Hid (Below w.heap.size w wr)) (fun i _ => M - (intOf i).toNat)
  case atStart => exact ⟨0, by omega, rfl, O1, K1, B1⟩
  case round =>
    clear O1 K1 B1
    obtain ⟨k, hk, rfl, HO, HK, HW⟩ := hrel
    by_cases hlt : k < M
    · have hkI : (k : Int) < (M : Int) := by omega
      have hkM : (M : Int) ≤ 256 := by omega
      have hk2 : (k : Int) < 256 := by omega
      obtain ⟨hcc, hcf⟩ := HK.out.cell (j := k) (by omega)
      have hz := HY.out k
      obtain ⟨b, he, hbB, hbs, hcell, hst⟩ := HO.out.cells (by rw [HLEN.out k hk]; omega)
      obtain rfl : w.heap.size = b := by simpa using he
      obtain ⟨hc1, hc2⟩ := hcell k (by rw [HLEN.out k hk]; omega)
      have HS1 := Lib.hid (HSET.out k hlt)
      have HO1 := Lib.hid (hst k (Z.getD k 0) (by omega))
      rw [HS1.out] at HO1
      have hg : g < w.heap.size := HH.out.size
      have HK1 := Lib.hid (HK.out.far (k := w.heap.size) (by omega) k (.int .i64 (Z.getD k 0)))
      have HW1 := Lib.hid (bset HW.out w.heap.size k (.int .i64 (Z.getD k 0)) (by omega))
      have hcv : IntKind.i64.wrap (Z.getD k 0) = Z.getD k 0 := by rw [IntKind.wrap_i64]; omega
      have hne : ¬ g = w.heap.size := by omega
      have hne2 : ¬ w.heap.size = g := by omega
      generalize (unpK Z M k).getD k 0 = y at *
      generalize Z.getD k 0 = z at *
      have HC1 := Lib.hid (show (w.cell? ⟨w.heap.size, k, none⟩ = none ∨ True) from .inr trivial)
      clear hcell hst he
      go_wp2
      go_roundw
      case rel => exact ⟨k + 1, by omega, by go_num, HO1, HK1, Lib.hid (by first | exact HW1.out | exact HW1.out.drew)⟩
      case measure => simp [intOf]; omega
    · obtain rfl : k = M := by omega
      go_wp2
      go_ret
      exact ⟨_, rfl, by rw [← HALL.out]; exact HO.out, HW.out⟩
end Go.Proofs.YtgnopnifdiipkaaDoor
