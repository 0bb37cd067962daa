/- The contracts of countmin.appendUints and Encode. -/
import Derived.Test.YtlbbmnjhohfbkaaCmEst
import Derived.Test.YtlbbmnjhohfbkaaCmSame
import Derived.Test.YtlbbmnjhohfbkaaTallyEnc
namespace Go.Proofs.Ytlbbmnjhohfbkaa
open Go.RowKit
set_option linter.unusedVariables false
set_option linter.unusedSimpArgs false
/-- The encodings of numbers, one after another. -/
def encL (M : List Int) : List Int := M.flatMap fun n => uintB n.toNat
theorem encL_nil : encL [] = [] := rfl
theorem encL_app (A B : List Int) : encL (A ++ B) = encL A ++ encL B := by simp [encL]
theorem encL_one (n : Int) : encL [n] = uintB n.toNat := by simp [encL]
theorem encL_succ {M : List Int} {k : Nat} (h : k < M.length) : encL (M.take (k + 1)) = encL (M.take k) ++ uintB (M.getD k 0).toNat := by
  rw [take_snoc M k h, encL_app, encL_one]
theorem encL_len : ∀ {M : List Int}, (∀ n ∈ M, 0 ≤ n ∧ n ≤ 4294967295) → (encL M).length ≤ 9 * M.length
  | [], _ => by simp [encL]
  | n :: M, h => by
    have h1 := encL_len (M := M) (fun m hm => h m (List.mem_cons_of_mem _ hm))
    have h2 := (uintB_len n.toNat (by have := h n List.mem_cons_self; omega)).2
    rw [show encL (n :: M) = uintB n.toNat ++ encL M by simp [encL], List.length_append, List.length_cons]
    omega
theorem Bd.take {M : List Int} (h : ∀ n ∈ M, 0 ≤ n ∧ n ≤ 4294967295) (k : Nat) : ∀ n ∈ M.take k, 0 ≤ n ∧ n ≤ 4294967295 := fun n hn => h n (List.mem_of_mem_take hn)
/-- The encoding of a sketch. -/
def codC (c : CM) : List Int := if cmE c.D c.S c.L = 0 then uintB c.D.toNat ++ uintB c.S.toNat ++ be c.x.toNat 8 ++ encL c.L ++ uintB (flagN c.s) else []
set_option maxRecDepth 100000 in
set_option maxHeartbeats 1000000 in
theorem auints_any (B : Nat) (A M : List Int) (v u : Value) (w : World) (ho : Own B A v w) (hu : RdI M u w) (hd : ∀ k, k < M.length → ∀ wr, Below B w wr → (k = 0 → wr = w) → RdI M u wr) (hM : ∀ n ∈ M, 0 ≤ n ∧ n ≤ 4294967295) (hB : B ≤ w.heap.size) (hA : A.length ≤ 1000000) (hm : M.length ≤ 1000) :
    Calls Try.prog 52 #[v, u] w fun e w' => ∃ v', e = .returned v' ∧ Own B (A ++ encL M) v' w' ∧ Below B w w' := by
  obtain ⟨a, cap, rfl⟩ := hu.shape
  have HU := Lib.hid hd
  have HM := Lib.hid (fun k => getD_bd hM k)
  have HS := Lib.hid (fun k (h : k < M.length) => encL_succ h)
  have HL := Lib.hid (fun k => encL_len (Bd.take hM k))
  have HT := Lib.hid (show M.take M.length = M from List.take_length)
  have HO := Lib.hid ho
  have HB := Lib.hid hB
  clear hu hM ho hB hd
  go_enter Try.func52, Try.ntmps52
  go_wp2
  go_loopw [0, 6, 7, 8, 11] (fun b _ _ _ i wr => ∃ k : Nat, k ≤ M.length ∧ i = .int .i64 (k : Int) ∧ Hid (Own B (A ++ encL (M.take k)) b wr) ∧ Hid (Below B w wr) ∧ Hid (k = 0 → wr = w)) (fun _ _ _ _ i _ => M.length - (intOf i).toNat)
  case atStart => exact ⟨0, by omega, rfl, Lib.hid (by rw [List.take_zero, encL_nil, List.append_nil]; exact HO.out), Lib.hid (Below.refl _ _), Lib.hid (fun _ => rfl)⟩
  case round =>
    obtain ⟨k, hk, rfl, HW, HBW, HK0⟩ := hrel
    by_cases hlt : k < M.length
    · obtain ⟨_, b, off, rfl, hb, hc⟩ := (HU.out k hlt wr HBW.out HK0.out).cellAt (Below.refl _ _) hlt
      have hz := HM.out k
      have HSS := Lib.hid (HS.out k hlt)
      have HLL := Lib.hid (HL.out k)
      obtain ⟨z, hz1⟩ : ∃ z : Nat, M.getD k 0 = (z : Int) := ⟨(M.getD k 0).toNat, by omega⟩
      rw [hz1] at hc hz HSS
      rw [Int.toNat_natCast] at HSS
      have he := fun w => k_uint z (by omega) w
      have hzl := (uintB_len z (by omega)).2
      have HWS := Lib.hid (Nat.le_trans HB.out HBW.out.size)
      have HTL := Lib.hid (List.length_take (i := k) (l := M))
      clear hz1 HM HS HL HU HK0
      generalize uintB z = Z at *
      go_wp2_with (first
        | (go_at_call 67; refine (he _).mono ?_; rintro e w3 ⟨v3, rfl, ho3, hb3⟩; have HO3 := Lib.hid (HW.out.below hb3); have HR3 := Lib.hid ho3.rd.src; have HS3 := Lib.hid (Nat.le_trans HWS.out hb3.size); have HB3 := Lib.hid (HBW.out.trans (hb3.mono HWS.out)); clear ho3 hb3)
        | (at_builtin; refine wp_app rfl _ _ _ rfl B (A ++ encL (M.take k)) Z _ _ rfl rfl HO3.out HR3.out HS3.out ?c3 ?_))
      case c3 => have h1 := HLL.out; have h2 := HTL.out; rw [List.length_append]; omega
      intro v4 w4 ho4 hb4
      have HO4 : Hid (Own B (A ++ encL (M.take (k + 1))) v4 w4) := Lib.hid (by rw [HSS.out]; first | exact ho4 | (rw [← List.append_assoc]; exact ho4))
      have HB4 := Lib.hid (HB3.out.trans hb4)
      clear ho4 hb4 HO3 HR3 HS3 HB3
      go_wp2
      go_roundw
      case rel => exact ⟨k + 1, by omega, by go_num, HO4, HB4, Lib.hid (fun h => by omega)⟩
      case measure => simp [intOf]; omega
    · obtain rfl : k = M.length := by omega
      have HWW := Lib.hid HW.out
      rw [HT.out] at HWW
      go_wp2
      go_ret
      exact ⟨_, rfl, HWW.out, HBW.out⟩
set_option maxRecDepth 100000 in
set_option maxHeartbeats 2000000 in
theorem cenc_any (c : CM) (v : Value) (w : World) (hc : WfC c) (hv : RdC c v w) :
    Calls Try.prog 28 #[v] w fun e w' => ∃ u, e = .returned (.tuple #[u, .int .i64 (cmE c.D c.S c.L)]) ∧ Own w.heap.size (codC c) u w' ∧ Below w.heap.size w w' := by
  obtain ⟨D, S, x, L, s⟩ := c
  obtain ⟨⟨D0, D1⟩, ⟨S0, S1⟩, x0, x1⟩ := hc
  obtain ⟨a, n, cap, rfl, hR⟩ := hv
  dsimp only at D0 D1 S0 S1 x0 x1 hR ⊢
  have h1 := fun (w' : World) (hb : Below w.heap.size w w') => cval_any D S x L a n cap s w' D0 D1 S0 S1 (hR.below hb)
  have C0 := Lib.hid (CSt.new D S x (.slice a n cap) s 26 w)
  have HB0 := Lib.hid (b1 (a := w) (.cells #[.int .i64 D, .int .i64 S, .int .u64 x, .slice a n cap, .bool s] 26))
  unfold codC
  dsimp only
  by_cases hE : cmE D S L = 0
  · rw [if_pos hE, hE]
    have hok := cmE_ok hE
    rw [hE] at h1
    obtain ⟨⟨o1, o2, o3, o4⟩, o5, o6⟩ := hok
    have hNS2 : D * S ≤ 8 * 64 := Int.mul_le_mul o2 o4 (by omega) (by omega)
    have hlen : L.length ≤ 512 := by omega
    have HEN : Hid (encL [D, S] = uintB D.toNat ++ uintB S.toNat) := Lib.hid (by simp [encL])
    have HE1 : Hid (encL [(flagN s : Int)] = uintB (flagN s)) := Lib.hid (by rw [encL_one, Int.toNat_natCast])
    have HLL := Lib.hid (encL_len o6)
    have HDL := Lib.hid (And.intro (uintB_len D.toNat (by omega)).2 (uintB_len S.toNat (by omega)).2)
    obtain ⟨y, hy⟩ : ∃ y : Nat, x = (y : Int) := ⟨x.toNat, by omega⟩
    have hwd := fun w => encWord_any y w (by omega)
    have HX := Lib.hid (show be x.toNat 8 = be y 8 by rw [hy, Int.toNat_natCast])
    rw [← hy] at hwd
    have HBE := Lib.hid (be_len y 8)
    rw [HX.out]
    have hf : 0 ≤ ((flagN s : Nat) : Int) ∧ ((flagN s : Nat) : Int) ≤ 1 := by unfold flagN; split <;> omega
    have hs2 : s = false ∧ ((flagN s : Nat) : Int) = 0 ∨ s = true ∧ ((flagN s : Nat) : Int) = 1 := by cases s <;> simp [flagN]
    obtain ⟨f, hfe⟩ : ∃ f : Int, ((flagN s : Nat) : Int) = f := ⟨_, rfl⟩
    rw [hfe] at hf hs2 HE1
    generalize uintB (flagN s) = FB at *
    generalize be y 8 = YB at *
    generalize uintB D.toNat = DB at *
    generalize uintB S.toNat = SB at *
    clear hE hfe hy HX
    rcases hs2 with ⟨rfl, rfl⟩ | ⟨rfl, rfl⟩
    · go_enter Try.func28, Try.ntmps28
      go_wp2_with (first
        | (go_at_call 21; refine (h1 _ HB0.out).mono ?_; rintro e w2 ⟨rfl, hb2⟩; have B2 := Lib.hid (bgo HB0.out hb2); have C2 := Lib.hid (C0.out.below hb2 (by simp)); have L2 := Lib.hid (show w.heap.size < w2.heap.size by have := hb2.size; simp at this; omega); obtain ⟨⟨q20, q21, q22, q23, q24⟩, f20, f21, f22, f23, f24⟩ := C2.out; clear hb2))
      have hz2 : ∀ o, (w2.alloc o).heap.size = w2.heap.size + 1 := fun o => by simp
      have hU1 := (OwnI.two (c := D) (d := S) ⟨D0, D1⟩ ⟨S0, S1⟩ w2).rd
      go_at_call 52
      refine (auints_any (w2.heap.size + 1) [] [D, S] _ _ _ (Own.empty _ _) hU1 (fun k hk wr hb _ => hU1.below (by rw [hz2]; exact hb)) (by intro n hn; simp at hn; omega) (by rw [hz2]; exact Nat.le_refl _) (by simp) (by simp)).mono ?_
      rintro e w3 ⟨v3, rfl, ho3, hb3⟩
      rw [List.nil_append, HEN.out] at ho3
      have HO3 := Lib.hid ho3
      have B3 := Lib.hid ((bal B2.out (.cells #[.int .i64 D, .int .i64 S] 3)).trans (hb3.mono (by have := L2.out; omega)))
      have C3 := Lib.hid ((C2.out.below (b1 (.cells #[.int .i64 D, .int .i64 S] 3)) L2.out).below hb3 (by have := L2.out; omega))
      have L3 := Lib.hid (show w2.heap.size + 1 ≤ w3.heap.size by have := hb3.size; rw [hz2] at this; exact this)
      obtain ⟨⟨q30, q31, q32, q33, q34⟩, f30, f31, f32, f33, f34⟩ := C3.out
      clear hU1 ho3 hb3 q20 q21 q22 q23 q24 f20 f21 f22 f23 f24
      go_wp2_with (first
        | (go_at_call 53; refine (hwd _).mono ?_; rintro e w4 ⟨v4, rfl, ho4, hb4⟩; have HO4 := Lib.hid (HO3.out.below hb4); have HR4 := Lib.hid ho4.rd.src; have L4 := Lib.hid (Nat.le_trans L3.out hb4.size); have B4 := Lib.hid (bgo B3.out hb4); have C4 := Lib.hid (C3.out.below hb4 (by have := L2.out; have := L3.out; omega)); clear ho4 hb4)
        | (at_builtin; refine wp_app rfl _ _ _ rfl (w2.heap.size + 1) (DB ++ SB) YB _ _ rfl rfl HO4.out HR4.out L4.out ?c3 ?_))
      case c3 => have h1 := HDL.out; have h2 := HBE.out; rw [List.length_append]; omega
      intro v5 w5 ho5 hb5
      have HO5 := Lib.hid ho5
      have L5 := Lib.hid (Nat.le_trans L4.out hb5.size)
      have B5 := Lib.hid (B4.out.trans (hb5.mono (by have := L2.out; omega)))
      have C5 := Lib.hid (C4.out.below hb5 (by have := L2.out; omega))
      obtain ⟨⟨q50, q51, q52, q53, q54⟩, f50, f51, f52, f53, f54⟩ := C5.out
      clear ho5 hb5 q30 q31 q32 q33 q34 f30 f31 f32 f33 f34 HO3 HO4 HR4
      go_wp2_with fail
      go_at_call 52
      refine (auints_any (w2.heap.size + 1) (DB ++ SB ++ YB) L _ _ w5 (by first | exact HO5.out | (rw [List.append_assoc]; exact HO5.out)) (hR.below B5.out) (fun k hk wr hb _ => hR.below (B5.out.trans (hb.mono (by have := L2.out; omega)))) o6 L5.out (by have h1 := HDL.out; have h2 := HBE.out; simp only [List.length_append]; omega) (by omega)).mono ?_
      rintro e w6 ⟨v6, rfl, ho6, hb6⟩
      have HO6 := Lib.hid ho6
      have L6 := Lib.hid (Nat.le_trans L5.out hb6.size)
      have B6 := Lib.hid (B5.out.trans (hb6.mono (by have := L2.out; omega)))
      clear ho6 hb6 q50 q51 q52 q53 q54 f50 f51 f52 f53 f54 HO5
      go_wp2_with fail
      have hU7 := (OwnI.one (c := 0) (by omega) w6).rd
      have hz6 : ∀ o, (w6.alloc o).heap.size = w6.heap.size + 1 := fun o => by simp
      go_at_call 52
      refine (auints_any (w2.heap.size + 1) (DB ++ SB ++ YB ++ encL L) [0] _ _ _ (Own.alloc HO6.out _) hU7 (fun k hk wr hb h0 => by rw [h0 (by simpa using hk)]; exact hU7) (by intro n hn; simp at hn; omega) (by rw [hz6]; have := L6.out; omega) (by have h1 := HDL.out; have h2 := HBE.out; have h3 := HLL.out; simp only [List.length_append]; omega) (by simp)).mono ?_
      rintro e w7 ⟨v7, rfl, ho7, hb7⟩
      rw [HE1.out] at ho7
      have HO7 := Lib.hid ho7
      have B7 := Lib.hid ((bal B6.out (.cells #[.int .i64 0] 3)).trans (hb7.mono (by have := L2.out; omega)))
      clear ho7 hb7
      go_wp2
      go_ret2
      exact ⟨_, rfl, HO7.out.mono (by have := L2.out; omega), B7.out⟩
    · go_enter Try.func28, Try.ntmps28
      go_wp2_with (first
        | (go_at_call 21; refine (h1 _ HB0.out).mono ?_; rintro e w2 ⟨rfl, hb2⟩; have B2 := Lib.hid (bgo HB0.out hb2); have C2 := Lib.hid (C0.out.below hb2 (by simp)); have L2 := Lib.hid (show w.heap.size < w2.heap.size by have := hb2.size; simp at this; omega); obtain ⟨⟨q20, q21, q22, q23, q24⟩, f20, f21, f22, f23, f24⟩ := C2.out; clear hb2))
      have hz2 : ∀ o, (w2.alloc o).heap.size = w2.heap.size + 1 := fun o => by simp
      have hU1 := (OwnI.two (c := D) (d := S) ⟨D0, D1⟩ ⟨S0, S1⟩ w2).rd
      go_at_call 52
      refine (auints_any (w2.heap.size + 1) [] [D, S] _ _ _ (Own.empty _ _) hU1 (fun k hk wr hb _ => hU1.below (by rw [hz2]; exact hb)) (by intro n hn; simp at hn; omega) (by rw [hz2]; exact Nat.le_refl _) (by simp) (by simp)).mono ?_
      rintro e w3 ⟨v3, rfl, ho3, hb3⟩
      rw [List.nil_append, HEN.out] at ho3
      have HO3 := Lib.hid ho3
      have B3 := Lib.hid ((bal B2.out (.cells #[.int .i64 D, .int .i64 S] 3)).trans (hb3.mono (by have := L2.out; omega)))
      have C3 := Lib.hid ((C2.out.below (b1 (.cells #[.int .i64 D, .int .i64 S] 3)) L2.out).below hb3 (by have := L2.out; omega))
      have L3 := Lib.hid (show w2.heap.size + 1 ≤ w3.heap.size by have := hb3.size; rw [hz2] at this; exact this)
      obtain ⟨⟨q30, q31, q32, q33, q34⟩, f30, f31, f32, f33, f34⟩ := C3.out
      clear hU1 ho3 hb3 q20 q21 q22 q23 q24 f20 f21 f22 f23 f24
      go_wp2_with (first
        | (go_at_call 53; refine (hwd _).mono ?_; rintro e w4 ⟨v4, rfl, ho4, hb4⟩; have HO4 := Lib.hid (HO3.out.below hb4); have HR4 := Lib.hid ho4.rd.src; have L4 := Lib.hid (Nat.le_trans L3.out hb4.size); have B4 := Lib.hid (bgo B3.out hb4); have C4 := Lib.hid (C3.out.below hb4 (by have := L2.out; have := L3.out; omega)); clear ho4 hb4)
        | (at_builtin; refine wp_app rfl _ _ _ rfl (w2.heap.size + 1) (DB ++ SB) YB _ _ rfl rfl HO4.out HR4.out L4.out ?c3 ?_))
      case c3 => have h1 := HDL.out; have h2 := HBE.out; rw [List.length_append]; omega
      intro v5 w5 ho5 hb5
      have HO5 := Lib.hid ho5
      have L5 := Lib.hid (Nat.le_trans L4.out hb5.size)
      have B5 := Lib.hid (B4.out.trans (hb5.mono (by have := L2.out; omega)))
      have C5 := Lib.hid (C4.out.below hb5 (by have := L2.out; omega))
      obtain ⟨⟨q50, q51, q52, q53, q54⟩, f50, f51, f52, f53, f54⟩ := C5.out
      clear ho5 hb5 q30 q31 q32 q33 q34 f30 f31 f32 f33 f34 HO3 HO4 HR4
      go_wp2_with fail
      go_at_call 52
      refine (auints_any (w2.heap.size + 1) (DB ++ SB ++ YB) L _ _ w5 (by first | exact HO5.out | (rw [List.append_assoc]; exact HO5.out)) (hR.below B5.out) (fun k hk wr hb _ => hR.below (B5.out.trans (hb.mono (by have := L2.out; omega)))) o6 L5.out (by have h1 := HDL.out; have h2 := HBE.out; simp only [List.length_append]; omega) (by omega)).mono ?_
      rintro e w6 ⟨v6, rfl, ho6, hb6⟩
      have HO6 := Lib.hid ho6
      have L6 := Lib.hid (Nat.le_trans L5.out hb6.size)
      have B6 := Lib.hid (B5.out.trans (hb6.mono (by have := L2.out; omega)))
      clear ho6 hb6 q50 q51 q52 q53 q54 f50 f51 f52 f53 f54 HO5
      go_wp2_with fail
      have hU7 := (OwnI.one (c := 1) (by omega) w6).rd
      have hz6 : ∀ o, (w6.alloc o).heap.size = w6.heap.size + 1 := fun o => by simp
      go_at_call 52
      refine (auints_any (w2.heap.size + 1) (DB ++ SB ++ YB ++ encL L) [1] _ _ _ (Own.alloc HO6.out _) hU7 (fun k hk wr hb h0 => by rw [h0 (by simpa using hk)]; exact hU7) (by intro n hn; simp at hn; omega) (by rw [hz6]; have := L6.out; omega) (by have h1 := HDL.out; have h2 := HBE.out; have h3 := HLL.out; simp only [List.length_append]; omega) (by simp)).mono ?_
      rintro e w7 ⟨v7, rfl, ho7, hb7⟩
      rw [HE1.out] at ho7
      have HO7 := Lib.hid ho7
      have B7 := Lib.hid ((bal B6.out (.cells #[.int .i64 1] 3)).trans (hb7.mono (by have := L2.out; omega)))
      clear ho7 hb7
      go_wp2
      go_ret2
      exact ⟨_, rfl, HO7.out.mono (by have := L2.out; omega), B7.out⟩
  · rw [if_neg hE]
    have hE2 : (cmE D S L != 0) = true := by simpa using hE
    generalize cmE D S L = E at *
    clear hE
    go_enter Try.func28, Try.ntmps28
    go_wp2_with (go_at_call 21; refine (h1 _ HB0.out).mono ?_; rintro e w2 ⟨rfl, hb2⟩; have B2 := Lib.hid (bgo HB0.out hb2); clear hb2)
    go_ret2
    exact ⟨_, rfl, Own.empty _ _, B2.out⟩
end Go.Proofs.Ytlbbmnjhohfbkaa
