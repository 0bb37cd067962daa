/- The contract of the reference's EncodeCountMin. -/
import Derived.Test.YtlbbmnjhohfbkaaCmEnc
import Derived.Test.YtlbbmnjhohfbkaaRCmIns
import Derived.Test.YtlbbmnjhohfbkaaWireRef2
import Derived.Deep.RegionHeld3
namespace Go.Proofs.Ytlbbmnjhohfbkaa
open Go.RowKit
set_option linter.unusedVariables false
set_option linter.unusedSimpArgs false
theorem CSt.size {g : Nat} {D S x : Int} {v : Value} {s : Bool} {w : World} (h : CSt g D S x v s w) : g < w.heap.size := block_lt_of_cell h.1.1
theorem CSt.go {g : Nat} {D S x : Int} {v : Value} {s : Bool} {w w' : World} (h : CSt g D S x v s w) (hb : Below w.heap.size w w') : CSt g D S x v s w' := h.below hb h.size
set_option maxRecDepth 100000 in
set_option maxHeartbeats 2000000 in
theorem rcenc_any (c : CM) (v : Value) (w : World) (hc : WfC c) (hv : RdC c v w) :
    Calls Try.prog 29 #[v] w fun e w' => ∃ u, e = .returned (.tuple #[u, .int .i64 (cmE c.D c.S c.L)]) ∧ Own w.heap.size (codC c) u w' ∧ Below w.heap.size w w' := by
  obtain ⟨D, S, x, L, s⟩ := c
  obtain ⟨⟨D0, D1⟩, ⟨S0, S1⟩, x0, x1⟩ := hc
  obtain ⟨a, n, cap, rfl, hR⟩ := hv
  dsimp only at D0 D1 S0 S1 x0 x1 hR ⊢
  have h1 := fun (w' : World) (hb : Below w.heap.size w w') => rcval_any D S x L a n cap s w' D0 D1 S0 S1 (hR.below hb)
  have C0 := Lib.hid (CSt.new D S x (.slice a n cap) s 26 w)
  have HB0 := Lib.hid (b1 (a := w) (.cells #[.int .i64 D, .int .i64 S, .int .u64 x, .slice a n cap, .bool s] 26))
  unfold codC
  dsimp only
  by_cases hE : cmE D S L = 0
  · rw [if_pos hE, hE]
    have hok := cmE_ok hE
    rw [hE] at h1
    obtain ⟨⟨o1, o2, o3, o4⟩, o5, o6⟩ := hok
    have hNS2 : D * S ≤ 8 * 64 := Int.mul_le_mul o2 o4 (by omega) (by omega)
    have hlen : L.length ≤ 512 := by omega
    obtain ⟨d, hd⟩ : ∃ d : Nat, D = (d : Int) := ⟨D.toNat, by omega⟩
    obtain ⟨z, hz⟩ : ∃ z : Nat, S = (z : Int) := ⟨S.toNat, by omega⟩
    obtain ⟨y, hy⟩ : ∃ y : Nat, x = (y : Int) := ⟨x.toNat, by omega⟩
    have h2 := fun w => ruint_any d w (by omega)
    have h3 := fun w => ruint_any z w (by omega)
    have hwd := fun w => rword_any y w (by omega)
    have hfl := fun w => flag_any s w
    have HDL := Lib.hid (And.intro (uintB_len D.toNat (by omega)).2 (uintB_len S.toNat (by omega)).2)
    have HX := Lib.hid (show be x.toNat 8 = be y 8 by rw [hy, Int.toNat_natCast])
    have HX1 := Lib.hid (show uintB D.toNat = uintB d by rw [hd, Int.toNat_natCast])
    have HX2 := Lib.hid (show uintB S.toNat = uintB z by rw [hz, Int.toNat_natCast])
    rw [← hy] at hwd
    rw [← hd] at h2
    rw [← hz] at h3
    have HBE := Lib.hid (be_len y 8)
    have HM := Lib.hid (fun k => getD_bd o6 k)
    have HSU := Lib.hid (fun k (h : k < L.length) => encL_succ h)
    have HLL := Lib.hid (fun k => encL_len (Bd.take o6 k))
    have HT := Lib.hid (show L.take L.length = L from List.take_length)
    have HR := Lib.hid hR
    obtain ⟨a', cap', he⟩ := hR.shape
    simp only [Value.slice.injEq] at he
    obtain ⟨rfl, rfl, rfl⟩ := he
    rw [HX.out, HX1.out, HX2.out]
    rw [HX1.out, HX2.out] at HDL
    have HFB := Lib.hid (show (uintB (flagN s)).length ≤ 9 by rw [uintB_flag]; simp)
    generalize uintB (flagN s) = FB at *
    generalize be y 8 = YB at *
    generalize uintB d = DB at *
    generalize uintB z = SB at *
    clear hE HX HX1 HX2 hd hz hy hNS2
    go_enter Try.func29, Try.ntmps29
    go_wp2_with (first
      | (go_at_call 22; refine (h1 _ HB0.out).mono ?_; rintro e w2 ⟨rfl, hb2⟩; have B2 := Lib.hid (bgo HB0.out hb2); have C2 := Lib.hid (C0.out.below hb2 (by simp)); clear hb2))
    have CD := Lib.hid (show CSt w.heap.size D S x (.slice a L.length cap) s w2.drew from C2.out)
    have BD := Lib.hid (B2.out.drew)
    obtain ⟨⟨q0, q1, _⟩, _⟩ := C2.out
    clear h1 C0 HB0 hR
    go_region_held3 (fun w' => w'.cell? ⟨w.heap.size, 0, none⟩ = some (.int .i64 D) ∧ w'.cell? ⟨w.heap.size, 1, none⟩ = some (.int .i64 S)) (go_keep)
      (first
      | (go_at_call 54; (with_reducible refine (h2 _).mono ?_); rintro e w3 ⟨v3, rfl, ho3, hb3⟩; have CT : Hid (CSt w.heap.size D S x (.slice a L.length cap) s w3) := Lib.hid (by first | exact CI.out.go hb3 | exact CD.out.go hb3); have BT : Hid (Below w.heap.size w w3) := Lib.hid (by first | exact bgo BI.out hb3 | exact bgo BD.out hb3); obtain ⟨⟨t0, t1, _⟩, _⟩ := CT.out; have HO := Lib.hid (Own.mono ho3 (B' := w.heap.size + 1) (by first | exact CI.out.size | exact CD.out.size)); (try (have HRR := Lib.hid (Rd.below HRI.out hb3))); clear h2 ho3 hb3)
      | (go_at_call 54; (with_reducible refine (h3 _).mono ?_); rintro e w4 ⟨v4, rfl, ho4, hb4⟩; have CI : Hid (CSt w.heap.size D S x (.slice a L.length cap) s w4) := Lib.hid (by first | exact CT.out.go hb4 | exact CD.out.go hb4); have BI : Hid (Below w.heap.size w w4) := Lib.hid (by first | exact bgo BT.out hb4 | exact bgo BD.out hb4); obtain ⟨⟨i0, i1, _⟩, _⟩ := CI.out; have HRI := Lib.hid (Own.rd ho4); (try (have HOO := Lib.hid (Own.below HO.out hb4))); clear h3 ho4 hb4)
      | (refine step_app rfl _ _ _ rfl (w.heap.size + 1) DB SB _ _ rfl rfl ?_ ?_ ?_ ?_ ?_; (first | exact HOO.out | exact HO.out); (first | exact HRR.out.src | exact HRI.out.src); (first | exact CT.out.size | exact CI.out.size); (have := HDL.out; omega); intro v5 w5 ho5 hb5; have C5 : Hid (CSt w.heap.size D S x (.slice a L.length cap) s w5) := Lib.hid (by first | exact CT.out.below hb5 (Nat.lt_succ_self _) | exact CI.out.below hb5 (Nat.lt_succ_self _)); have B5 : Hid (Below w.heap.size w w5) := Lib.hid (Below.trans (by first | exact BT.out | exact BI.out) (hb5.mono (Nat.le_succ _))); obtain ⟨⟨s0, s1, _⟩, _⟩ := C5.out; have HO5 := Lib.hid ho5; clear ho5 hb5))
    all_goals
      obtain ⟨⟨p50, p51, p52, p53, p54⟩, _⟩ := C5.out
      clear q0 q1 t0 t1 i0 i1 s0 s1 CT CI BT BI CD BD C2 B2 HO HRI
      try clear HRR
      try clear HOO
      go_wp2_with (first
        | (go_at_call 55; refine (hwd _).mono ?_; rintro e w6 ⟨v6, rfl, ho6, hb6⟩; have HO6 := Lib.hid (HO5.out.below hb6); have HR6 := Lib.hid ho6.rd.src; have C6 := Lib.hid (C5.out.go hb6); have B6 := Lib.hid (bgo B5.out hb6); clear ho6 hb6)
        | (at_builtin; refine wp_app rfl _ _ _ rfl (w.heap.size + 1) (DB ++ SB) YB _ _ rfl rfl HO6.out HR6.out C6.out.size ?c3 ?_))
      case c3 => have h1 := HDL.out; have h2 := HBE.out; rw [List.length_append]; omega
      intro v7 w7 ho7 hb7
      have HO7 : Hid (Own (w.heap.size + 1) (DB ++ SB ++ YB ++ encL (L.take 0)) v7 w7) := Lib.hid (by rw [List.take_zero, encL_nil, List.append_nil]; first | exact ho7 | (rw [List.append_assoc]; exact ho7))
      have C7 := Lib.hid (C6.out.below hb7 (Nat.lt_succ_self _))
      have B7 := Lib.hid (B6.out.trans (hb7.mono (Nat.le_succ _)))
      clear ho7 hb7 HO5 HO6 HR6 C6 B6 C5 B5 p50 p51 p52 p53 p54 hwd
      go_wp2
      go_loopw [5, 6] (fun b i wr => ∃ k : Nat, k ≤ L.length ∧ i = .int .i64 (k : Int) ∧ Hid (Own (w.heap.size + 1) (DB ++ SB ++ YB ++ encL (L.take k)) b wr) ∧ Hid (CSt w.heap.size D S x (.slice a L.length cap) s wr) ∧ Hid (Below w.heap.size w wr)) (fun _ i _ => L.length - (intOf i).toNat)
      case atStart => exact ⟨0, by omega, rfl, HO7, C7, B7⟩
      case round =>
        clear HO7 C7 B7
        obtain ⟨k, hk, rfl, HW, HC, HBW⟩ := hrel
        obtain ⟨⟨p0, p1, p2, p3, p4⟩, _⟩ := HC.out
        by_cases hlt : k < L.length
        · obtain ⟨_, b, off, rfl, hb, hc⟩ := HR.out.cellAt HBW.out hlt
          have hz := HM.out k
          have HSS := Lib.hid (HSU.out k hlt)
          have HLL2 := Lib.hid (HLL.out k)
          obtain ⟨z, hz1⟩ : ∃ z : Nat, L.getD k 0 = (z : Int) := ⟨(L.getD k 0).toNat, by omega⟩
          rw [hz1] at hc hz HSS
          rw [Int.toNat_natCast] at HSS
          have he := fun w => ruint_any z w (by omega)
          have hzl := (uintB_len z (by omega)).2
          have HTL := Lib.hid (List.length_take (i := k) (l := L))
          clear hz1 HM HSU HLL
          generalize uintB z = Z at *
          go_wp2_with (first
            | (go_at_call 54; refine (he _).mono ?_; rintro e w3 ⟨v3, rfl, ho3, hb3⟩; have HO3 := Lib.hid (HW.out.below hb3); have HR3 := Lib.hid ho3.rd.src; have C3 := Lib.hid (HC.out.go hb3); have HB3 := Lib.hid (bgo HBW.out hb3); clear ho3 hb3)
            | (at_builtin; refine wp_app rfl _ _ _ rfl (w.heap.size + 1) (DB ++ SB ++ YB ++ encL (L.take k)) Z _ _ rfl rfl HO3.out HR3.out C3.out.size ?c3 ?_))
          case c3 => have h1 := HLL2.out; have h2 := HTL.out; have h3 := HDL.out; have h4 := HBE.out; simp only [List.length_append]; omega
          intro v4 w4 ho4 hb4
          have HO4 : Hid (Own (w.heap.size + 1) (DB ++ SB ++ YB ++ encL (L.take (k + 1))) v4 w4) := Lib.hid (by rw [HSS.out]; first | exact ho4 | (simp only [List.append_assoc] at ho4 ⊢; exact ho4))
          have C4 := Lib.hid (C3.out.below hb4 (Nat.lt_succ_self _))
          have HB4 := Lib.hid (HB3.out.trans (hb4.mono (Nat.le_succ _)))
          clear ho4 hb4 HO3 HR3 C3 HB3
          go_wp2
          go_roundw
          case rel => exact ⟨k + 1, by omega, by go_num, HO4, C4, HB4⟩
          case measure => simp [intOf]; omega
        · obtain rfl : k = L.length := by omega
          have HLL2 := Lib.hid (HLL.out L.length)
          rw [HT.out] at HW HLL2
          go_wp2_with (first
            | (go_at_call 56; refine (hfl _).mono ?_; rintro e w3 ⟨v3, rfl, ho3, hb3⟩; have HO3 := Lib.hid (HW.out.below hb3); have HR3 := Lib.hid ho3.rd.src; have C3 := Lib.hid (HC.out.go hb3); have HB3 := Lib.hid (bgo HBW.out hb3); clear ho3 hb3)
            | (at_builtin; refine wp_app rfl _ _ _ rfl (w.heap.size + 1) (DB ++ SB ++ YB ++ encL L) FB _ _ rfl rfl HO3.out HR3.out C3.out.size ?c3 ?_))
          case c3 => have h1 := HLL2.out; have h3 := HDL.out; have h4 := HBE.out; have h5 := HFB.out; simp only [List.length_append]; omega
          intro v4 w4 ho4 hb4
          have HO4 := Lib.hid ho4
          have HB4 := Lib.hid (HB3.out.trans (hb4.mono (Nat.le_succ _)))
          clear ho4 hb4
          go_wp2
          go_ret2
          exact ⟨_, rfl, (by first | exact HO4.out.mono (Nat.le_succ _) | (have h := HO4.out.mono (Nat.le_succ _); simp only [List.append_assoc] at h ⊢; exact h)), HB4.out⟩
  · rw [if_neg hE]
    have hE2 : (cmE D S L != 0) = true := by simpa using hE
    generalize cmE D S L = E at *
    clear hE
    go_enter Try.func29, Try.ntmps29
    go_wp2_with (go_at_call 22; refine (h1 _ HB0.out).mono ?_; rintro e w2 ⟨rfl, hb2⟩; have B2 := Lib.hid (bgo HB0.out hb2); clear hb2)
    go_ret2
    exact ⟨_, rfl, Own.empty _ _, B2.out⟩
end Go.Proofs.Ytlbbmnjhohfbkaa
