/- The contracts of package wire's Checksum and Frame, and of the reference's. -/
import Derived.Test.YtnlboecmcgjmjaaWireRef2
namespace Go.Proofs.Ytnlboecmcgjmjaa
open Go.RowKit
set_option linter.unusedVariables false
set_option linter.unusedSimpArgs false
def adlerN (L : List Int) : Nat := (adler L).toNat
theorem adler_bd (L : List Int) : 0 ≤ adler L ∧ adler L ≤ 4294967295 := by
  have := sums_bd L
  unfold adler
  omega
theorem adlerN_eq (L : List Int) : ((adlerN L : Nat) : Int) = adler L := Int.toNat_of_nonneg (adler_bd L).1
theorem adlerN_bd (L : List Int) : adlerN L < 4294967296 := by have := adlerN_eq L; have := adler_bd L; omega
theorem or16 (v u : Int) (v0 : 0 ≤ v) (v1 : v < 65521) (u0 : 0 ≤ u) (u1 : u < 65521) : bits .or .u32 (v * 65536) u = v * 65536 + u := by
  obtain ⟨n, rfl⟩ : ∃ n : Nat, v = (n : Int) := ⟨v.toNat, by omega⟩
  obtain ⟨m, rfl⟩ : ∃ m : Nat, u = (m : Int) := ⟨u.toNat, by omega⟩
  have e : ((n : Int) * 65536) = ((n * 65536 : Nat) : Int) := by omega
  rw [e, u32_or_nat (n * 65536) m (by omega) (by omega)]
  have : n * 65536 ||| m = n * 65536 + m := by
    have h := Nat.shiftLeft_add_eq_or_of_lt (b := m) (i := 16) (by omega) n
    rw [Nat.shiftLeft_eq] at h
    exact h.symm
  rw [this]
  omega
theorem sums_up {L : List Int} {k : Nat} (h : k < L.length) : sumsUV (L.take (k + 1)) = (((sumsUV (L.take k)).1 + L.getD k 0) % 65521, ((sumsUV (L.take k)).2 + ((sumsUV (L.take k)).1 + L.getD k 0) % 65521) % 65521) := by
  rw [take_snoc L k h, sums_snoc]
set_option maxRecDepth 100000 in
set_option maxHeartbeats 1000000 in
theorem sum_any (L : List Int) (v : Value) (w : World) (h : Rd L v w) :
    Calls Try.prog 27 #[v] w fun e w' => e = .returned (.int .u32 (adlerN L : Nat)) ∧ w = w' := by
  obtain ⟨hy, a, cap, rfl, h1, h2, h3⟩ := h
  unfold maxLen at h2
  rw [adlerN_eq]
  go_enter Try.func27, Try.ntmps27
  go_wp2
  go_loop [3, 4, 6, 9] (fun x y c i => ∃ k : Nat, k ≤ L.length ∧ i = .int .i64 (k : Int) ∧ x = .int .u32 (sumsUV (L.take k)).1 ∧ y = .int .u32 (sumsUV (L.take k)).2) (fun _ _ _ i => L.length - (intOf i).toNat)
  case atStart => exact ⟨0, by omega, rfl, rfl, rfl⟩
  case round =>
    obtain ⟨k, hk, rfl, rfl, rfl⟩ := hrel
    by_cases hlt : k < L.length
    · obtain ⟨b, off, rfl, hb, hcell⟩ := h3 (by omega)
      have hc := hcell k hlt
      have hst := sums_up hlt
      have hbd := sums_bd (L.take k)
      have hcd := hy.at_ k
      have HS := Lib.hid hst
      clear hst h3 hcell
      generalize L.getD k 0 = t at *
      generalize (sumsUV (L.take k)).1 = x at *
      generalize (sumsUV (L.take k)).2 = y at *
      go_wp2
      go_round
      case rel => exact ⟨k + 1, by omega, by go_num, by rw [HS.out], by rw [HS.out]⟩
      case measure => simp [intOf] <;> omega
    · obtain rfl : k = L.length := by omega
      clear h3
      rw [List.take_length]
      have hbd := sums_bd L
      have ho := or16 _ _ hbd.2.2.1 hbd.2.2.2 hbd.1 hbd.2.1
      have e : adler L = (sumsUV L).2 * 65536 + (sumsUV L).1 := rfl
      have HE := Lib.hid e
      clear e
      generalize (sumsUV L).1 = x at *
      generalize (sumsUV L).2 = y at *
      go_wp2
      go_ret
      exact ⟨by rw [HE.out]; rfl, rfl⟩
set_option maxRecDepth 100000 in
set_option maxHeartbeats 1000000 in
theorem rsum_any (L : List Int) (v : Value) (w : World) (h : Rd L v w) :
    Calls Try.prog 28 #[v] w fun e w' => e = .returned (.int .u32 (adlerN L : Nat)) ∧ w = w' := by
  obtain ⟨hy, a, cap, rfl, h1, h2, h3⟩ := h
  unfold maxLen at h2
  rw [adlerN_eq]
  go_enter Try.func28, Try.ntmps28
  go_wp2
  go_loop [3, 4, 5] (fun x y i => ∃ k : Nat, k ≤ L.length ∧ i = .int .i64 (k : Int) ∧ x = .int .u32 (sumsUV (L.take k)).1 ∧ y = .int .u32 (sumsUV (L.take k)).2) (fun _ _ i => L.length - (intOf i).toNat)
  case atStart => exact ⟨0, by omega, rfl, rfl, rfl⟩
  case round =>
    obtain ⟨k, hk, rfl, rfl, rfl⟩ := hrel
    by_cases hlt : k < L.length
    · obtain ⟨b, off, rfl, hb, hcell⟩ := h3 (by omega)
      have hc := hcell k hlt
      have hst := sums_up hlt
      have hbd := sums_bd (L.take k)
      have hcd := hy.at_ k
      have HS := Lib.hid hst
      clear hst h3 hcell
      generalize L.getD k 0 = t at *
      generalize (sumsUV (L.take k)).1 = x at *
      generalize (sumsUV (L.take k)).2 = y at *
      go_wp2
      go_round
      case rel => exact ⟨k + 1, by omega, by go_num, by rw [HS.out], by rw [HS.out]⟩
      case measure => simp [intOf] <;> omega
    · obtain rfl : k = L.length := by omega
      clear h3
      rw [List.take_length]
      have hbd := sums_bd L
      have e : adler L = (sumsUV L).2 * 65536 + (sumsUV L).1 := rfl
      have HE := Lib.hid e
      clear e
      generalize (sumsUV L).1 = x at *
      generalize (sumsUV L).2 = y at *
      go_wp2
      go_ret
      exact ⟨by rw [HE.out]; rfl, rfl⟩
/-- A frame: its head and body; whole; the error. -/
def headB (tag : Int) (L : List Int) : List Int := tag :: (uintB L.length ++ L)
def frameB (tag : Int) (L : List Int) : List Int := if L.length ≤ 1048576 then headB tag L ++ be (adlerN (headB tag L)) 4 else []
def frameE (L : List Int) : Int := if L.length ≤ 1048576 then 0 else 11
set_option maxRecDepth 100000 in
set_option maxHeartbeats 2000000 in
theorem frame_any (tag : Int) (L : List Int) (v : Value) (w : World) (ht : 0 ≤ tag ∧ tag ≤ 255) (h : Rd L v w) :
    Calls Try.prog 23 #[.int .u8 tag, v] w fun e w' => ∃ v', e = .returned (.tuple #[v', .int .i64 (frameE L)]) ∧ Own w.heap.size (frameB tag L) v' w' ∧ Below w.heap.size w w' := by
  have h0 := h
  obtain ⟨hy, a, cap, rfl, h1, h2, h3⟩ := h
  unfold maxLen at h2
  unfold frameB frameE
  clear h3
  by_cases hr : L.length ≤ 1048576
  · rw [if_pos hr, if_pos hr]
    have hul := (uintB_len L.length (by omega)).2
    have hu := fun (w1 : World) (hs : w.heap.size ≤ w1.heap.size) (ho : Own w.heap.size [tag] (.slice (some ⟨w.heap.size, 0, none⟩) 1 1) w1) => appendUint_any w.heap.size [tag] L.length _ w1 (by omega) hs (by simp) ho
    have hlen : (headB tag L).length ≤ 70368744177664 := by simp [headB]; omega
    have hN := adlerN_bd (headB tag L)
    have hap := fun (v : Value) (w1 : World) (hs : w.heap.size ≤ w1.heap.size) (ho : Own w.heap.size (headB tag L) v w1) => appendBytes_any w.heap.size (headB tag L) (adlerN (headB tag L)) 4 v w1 (by omega) (by decide) hs hlen ho
    have hsm := fun (v : Value) (w1 : World) (ho : Own w.heap.size (headB tag L) v w1) => sum_any (headB tag L) v w1 ho.rd
    have HU := Lib.hid hu
    have HA := Lib.hid hap
    have HS := Lib.hid hsm
    have HL := Lib.hid hlen
    have H0 := Lib.hid h0
    have e : tag :: (uintB L.length ++ L) = headB tag L := rfl
    have HE := Lib.hid e
    have hwr : IntKind.u64.wrap (adlerN (headB tag L) : Nat) = (adlerN (headB tag L) : Nat) := by rw [IntKind.wrap_u64]; omega
    clear hu hap hsm hlen h0 e
    generalize adlerN (headB tag L) = N at *
    generalize headB tag L = HB at *
    generalize uintB L.length = UB at *
    have hone := Own.one ht w
    have hb0 : Below w.heap.size w (w.alloc (.cells #[.int .u8 tag] 5)) := (Below.refl _ w).alloc (Nat.le_refl _) _
    have HU1 := Lib.hid (HU.out _ (by simp) hone)
    have HB0 := Lib.hid hb0
    clear hone hb0
    go_enter Try.func23, Try.ntmps23
    go_wp2_with (first
      | (go_at_call 29; refine HU1.out.mono ?_; rintro e w1 ⟨v1, rfl, ho1, hb1⟩)
      | (at_builtin; refine wp_app rfl _ _ _ rfl w.heap.size _ L _ _ rfl rfl ho1 ((H0.out.below (HB0.out.trans hb1)).src) (HB0.out.trans hb1).size ?c3 ?_))
    case c3 => simp; omega
    · intro v2 w2 ho2 hb2
      rw [HE.out] at ho2
      have HB2 := Lib.hid ((HB0.out.trans hb1).trans hb2)
      have HO2 := Lib.hid ho2
      have hq := HS.out v2 w2 ho2
      clear ho1 hb1 ho2 hb2
      have hap := HA.out v2 w2 HB2.out.size HO2.out
      go_wp2_with (first
        | (go_at_call 27; refine hq.mono ?_; rintro e w' ⟨rfl, rfl⟩)
        | (go_at_call 32; refine hap.mono ?_; rintro e w3 ⟨v3, rfl, ho3, hb3⟩))
      go_ret2
      exact ⟨_, rfl, ho3, HB2.out.trans hb3⟩
  · rw [if_neg hr, if_neg hr]
    go_enter Try.func23, Try.ntmps23
    go_wp2
    go_ret2
    exact ⟨_, rfl, Own.empty _ _, Below.refl _ _⟩
theorem Own.row {C : List Int} (hy : Byt C) (w : World) (hm : C.length ≤ maxLen) : Own w.heap.size C (.slice (some ⟨w.heap.size, 0, none⟩) C.length C.length) (w.alloc (.cells (cells8 C).toArray 5)) :=
  ⟨hy, by rw [cells8_len, Nat.mul_one], .inr ⟨w.heap.size, C.length, (cells8 C).toArray, rfl, Nat.le_refl _, Go.heap_alloc_new w _, Nat.le_refl _, hm, by simp [cells8_len], by rw [Nat.mul_one, ← cells8_len]; exact List.take_length⟩⟩
theorem be4 (N : Nat) (h : N < 4294967296) : be N 4 = [(N : Int) / 16777216, (N : Int) / 65536 % 256, (N : Int) / 256 % 256, (N : Int) % 256] := by
  have e : be N 4 = [((N / 16777216 % 256 : Nat) : Int), ((N / 65536 % 256 : Nat) : Int), ((N / 256 % 256 : Nat) : Int), ((N / 1 % 256 : Nat) : Int)] := rfl
  rw [e, Nat.div_one]
  have e1 : N / 16777216 % 256 = N / 16777216 := Nat.mod_eq_of_lt (by omega)
  rw [e1]
  simp only [Int.natCast_emod, Int.natCast_ediv]
  rfl
theorem be4_byt (N : Nat) (h : N < 4294967296) : Byt [(N : Int) / 16777216, (N : Int) / 65536 % 256, (N : Int) / 256 % 256, (N : Int) % 256] := be4 N h ▸ be_byt N 4
set_option maxRecDepth 100000 in
set_option maxHeartbeats 2000000 in
theorem rframe_any (tag : Int) (L : List Int) (v : Value) (w : World) (ht : 0 ≤ tag ∧ tag ≤ 255) (h : Rd L v w) :
    Calls Try.prog 24 #[.int .u8 tag, v] w fun e w' => ∃ v', e = .returned (.tuple #[v', .int .i64 (frameE L)]) ∧ Own w.heap.size (frameB tag L) v' w' ∧ Below w.heap.size w w' := by
  have h0 := h
  obtain ⟨hy, a, cap, rfl, h1, h2, h3⟩ := h
  unfold maxLen at h2
  unfold frameB frameE
  clear h3
  by_cases hr : L.length ≤ 1048576
  · rw [if_pos hr, if_pos hr]
    have hul := (uintB_len L.length (by omega)).2
    have hu := fun (w1 : World) => ruint_any L.length w1 (by omega)
    have hsm := fun (v : Value) (w1 : World) (ho : Own w.heap.size (headB tag L) v w1) => rsum_any (headB tag L) v w1 ho.rd
    have hN := adlerN_bd (headB tag L)
    have e4 := be4 (adlerN (headB tag L)) hN
    have y4 := be4_byt (adlerN (headB tag L)) hN
    rw [e4]
    have hlen : (headB tag L).length ≤ 70368744177664 := by simp [headB]; omega
    have e : tag :: (uintB L.length ++ L) = headB tag L := rfl
    have HS := Lib.hid hsm
    have HL := Lib.hid hlen
    have H0 := Lib.hid h0
    have HE := Lib.hid e
    have Y4 := Lib.hid y4
    clear hsm hlen h0 e e4 y4
    generalize adlerN (headB tag L) = N at *
    generalize headB tag L = HB at *
    generalize uintB L.length = UB at *
    have hone := Own.one ht w
    have hb0 : Below w.heap.size w (w.alloc (.cells #[.int .u8 tag] 5)) := (Below.refl _ w).alloc (Nat.le_refl _) _
    have H1 := Lib.hid hone
    have HB0 := Lib.hid hb0
    clear hone hb0
    go_enter Try.func24, Try.ntmps24
    go_wp2_with (first
      | (go_at_call 30; refine (hu _).mono ?_; rintro e w1 ⟨v1, rfl, ho1, hb1⟩)
      | (at_builtin; refine wp_app rfl _ _ _ rfl w.heap.size [tag] UB _ _ rfl rfl (H1.out.below hb1) ho1.rd.src (Nat.le_trans HB0.out.size hb1.size) ?c3 ?_))
    case c3 => simp; omega
    · intro v2 w2 ho2 hb2
      have HB1 := Lib.hid ((HB0.out.trans (hb1.mono HB0.out.size)).trans hb2)
      have HO1 := Lib.hid ho2
      clear ho1 hb1 ho2 hb2 H1 hu
      go_wp2_with (at_builtin; refine wp_app rfl _ _ _ rfl w.heap.size ([tag] ++ UB) L _ _ rfl rfl HO1.out ((H0.out.below HB1.out).src) HB1.out.size ?d3 ?_)
      case d3 => simp; omega
      · intro v3 w3 ho3 hb3
        have ho3 : Own w.heap.size (tag :: (UB ++ L)) v3 w3 := ho3
        rw [HE.out] at ho3
        have HB3 := Lib.hid (HB1.out.trans hb3)
        have HO3 := Lib.hid ho3
        have hq := HS.out v3 w3 ho3
        clear ho3 hb3
        go_wp2_with (first
          | (go_at_call 28; refine hq.mono ?_; rintro e w' ⟨rfl, rfl⟩)
          | (at_builtin; refine wp_app rfl _ _ _ rfl w.heap.size HB [(N : Int) / 16777216, (N : Int) / 65536 % 256, (N : Int) / 256 % 256, (N : Int) % 256] _ _ rfl rfl (HO3.out.alloc _) ?f1 ?f2 ?f3 ?_))
        case f1 => exact (Own.row Y4.out _ (by simp [maxLen])).rd.src
        case f2 => have := HB3.out.size; simp <;> omega
        case f3 => have := HL.out; simp <;> omega
        · intro v4 w4 ho4 hb4
          have HB4 := Lib.hid ((HB3.out.alloc HB3.out.size _).trans hb4)
          have HO4 := Lib.hid ho4
          clear ho4 hb4
          go_wp2
          go_ret2
          exact ⟨_, rfl, HO4.out, HB4.out⟩
  · rw [if_neg hr, if_neg hr]
    go_enter Try.func24, Try.ntmps24
    go_wp2
    go_ret2
    exact ⟨_, rfl, Own.empty _ _, Below.refl _ _⟩
end Go.Proofs.Ytnlboecmcgjmjaa
