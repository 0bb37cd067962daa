/- The contract of the reference's EncodeLogLog. -/
import Derived.Test.YtgnopnifdiipkaaDoorRLNew
import Derived.Test.YtgnopnifdiipkaaDoorWires
import Derived.Test.YtgnopnifdiipkaaDoorSameI
import Derived.Deep.RegionHeld3
namespace Go.Proofs.YtgnopnifdiipkaaDoor
open Go.RowKit
set_option linter.unusedVariables false
set_option linter.unusedSimpArgs false
/-- The encoding of a sketch. -/
def codL (c : LL) : List Int := if llE c.P c.L = 0 then uintB c.P.toNat ++ be c.x.toNat 8 ++ c.L else []
theorem LSt.go {g : Nat} {P x : Int} {v : Value} {w w' : World} (h : LSt g P x v w) (hb : Below w.heap.size w w') : LSt g P x v w' := h.below hb h.size
theorem u8_in {z : Int} (h : 0 ≤ z ∧ z ≤ 255) : IntKind.u8.wrap z = z := by
  rw [IntKind.wrap_u8]
  omega
set_option maxRecDepth 100000 in
set_option maxHeartbeats 2000000 in
theorem rlenc_any (c : LL) (v : Value) (w : World) (x0 : 0 ≤ c.x) (x1 : c.x ≤ 18446744073709551615) (hv : RdL c v w) :
    Calls Tryd.prog 28 #[v] w fun e w' => ∃ u, e = .returned (.tuple #[u, .int .i64 (llE c.P c.L)]) ∧ Own w.heap.size (codL c) u w' ∧ Below w.heap.size w w' := by
  obtain ⟨P, x, L⟩ := c
  obtain ⟨a, n, cap, rfl, hR⟩ := hv
  dsimp only at x0 x1 hR ⊢
  have h1 := fun (w' : World) (hb : Below w.heap.size w w') => rlval_any P x L a n cap w' (hR.below hb)
  have C0 := Lib.hid (LSt.new P x (.slice a n cap) 26 w)
  have HB0 := Lib.hid (b1 (a := w) (.cells #[.int .i64 P, .int .u64 x, .slice a n cap] 26))
  unfold codL
  dsimp only
  by_cases hE : llE P L = 0
  · rw [if_pos hE, hE]
    obtain ⟨⟨P0, P1⟩, hlen, hreg⟩ := llE_ok hE
    rw [hE] at h1
    have hN := llN_bd ⟨P0, P1⟩
    have hl2 : L.length ≤ 256 := by omega
    obtain ⟨d, hd⟩ : ∃ d : Nat, P = (d : Int) := ⟨P.toNat, by omega⟩
    obtain ⟨y, hy⟩ : ∃ y : Nat, x = (y : Int) := ⟨x.toNat, by omega⟩
    have h2 := fun w => ruint_any d w (by omega)
    have hwd := fun w => rword_any y w (by omega)
    have HDL := Lib.hid (uintB_len P.toNat (by omega)).2
    have HX := Lib.hid (show be x.toNat 8 = be y 8 by rw [hy, Int.toNat_natCast])
    have HX1 := Lib.hid (show uintB P.toNat = uintB d by rw [hd, Int.toNat_natCast])
    rw [← hy] at hwd
    rw [← hd] at h2
    have HBE := Lib.hid (be_len y 8)
    have HM := Lib.hid (fun (k : Nat) (hk : k < L.length) => show 0 ≤ L.getD k 0 ∧ L.getD k 0 ≤ 255 from by
      have := hreg (L[k]) (List.getElem_mem hk)
      simp only [List.getD, List.getElem?_eq_getElem hk, Option.getD_some]
      omega)
    have HSU := Lib.hid (fun k (h : k < L.length) => take_snoc L k h)
    have HR := Lib.hid hR
    obtain ⟨a', cap', he⟩ := hR.shape
    simp only [Value.slice.injEq] at he
    obtain ⟨rfl, rfl, rfl⟩ := he
    rw [HX.out, HX1.out]
    rw [HX1.out] at HDL
    generalize be y 8 = YB at *
    generalize uintB d = DB at *
    clear hE HX HX1 hd hy hreg hN hlen
    go_enter Tryd.func28, Tryd.ntmps28
    go_wp2_with (go_at_call 22; (with_reducible refine (h1 _ HB0.out).mono ?_); rintro e w2 ⟨rfl, hb2⟩; have B2 := Lib.hid (bgo HB0.out hb2); have C2 := Lib.hid (C0.out.below hb2 (by simp)); clear hb2)
    have CD := Lib.hid (show LSt w.heap.size P x (.slice a L.length cap) w2.drew from C2.out)
    have BD := Lib.hid (B2.out.drew)
    obtain ⟨⟨q0, q1, -⟩, -⟩ := C2.out
    clear h1 C0 HB0 hR
    go_region_held3 (fun w' => w'.cell? ⟨w.heap.size, 0, none⟩ = some (.int .i64 P) ∧ w'.cell? ⟨w.heap.size, 1, none⟩ = some (.int .u64 x)) (go_keep)
      (first
      | (go_at_call 52; (with_reducible refine (h2 _).mono ?_); rintro e w3 ⟨v3, rfl, ho3, hb3⟩; have CT' : Hid (LSt w.heap.size P x (.slice a L.length cap) w3) := Lib.hid (by first | exact CI.out.go hb3 | exact CD.out.go hb3); have BT : Hid (Below w.heap.size w w3) := Lib.hid (by first | exact bgo BI.out hb3 | exact bgo BD.out hb3); obtain ⟨⟨t0, t1, _⟩, _⟩ := CT'.out; have HO := Lib.hid (Own.mono ho3 (B' := w.heap.size + 1) (by first | exact CI.out.size | exact CD.out.size)); (try (have HRR := Lib.hid (Rd.below HRI.out hb3))); clear h2 ho3 hb3)
      | (go_at_call 53; (with_reducible refine (hwd _).mono ?_); rintro e w4 ⟨v4, rfl, ho4, hb4⟩; have CI : Hid (LSt w.heap.size P x (.slice a L.length cap) w4) := Lib.hid (by first | exact CT'.out.go hb4 | exact CD.out.go hb4); have BI : Hid (Below w.heap.size w w4) := Lib.hid (by first | exact bgo BT.out hb4 | exact bgo BD.out hb4); obtain ⟨⟨i0, i1, _⟩, _⟩ := CI.out; have HRI := Lib.hid (Own.rd ho4); (try (have HOO := Lib.hid (Own.below HO.out hb4))); clear hwd ho4 hb4)
      | (refine step_app rfl _ _ _ rfl (w.heap.size + 1) DB YB _ _ rfl rfl ?_ ?_ ?_ ?_ ?_; (first | exact HOO.out | exact HO.out); (first | exact HRR.out.src | exact HRI.out.src); (first | exact CT'.out.size | exact CI.out.size); (have := HDL.out; have := HBE.out; omega); intro v5 w5 ho5 hb5; have C5 : Hid (LSt w.heap.size P x (.slice a L.length cap) w5) := Lib.hid (by first | exact CT'.out.below hb5 (Nat.lt_succ_self _) | exact CI.out.below hb5 (Nat.lt_succ_self _)); have B5 : Hid (Below w.heap.size w w5) := Lib.hid (Below.trans (by first | exact BT.out | exact BI.out) (hb5.mono (Nat.le_succ _))); obtain ⟨⟨s0, s1, _⟩, _⟩ := C5.out; have HO5 := Lib.hid ho5; clear ho5 hb5))
    all_goals
      have HO7 : Hid (Own (w.heap.size + 1) (DB ++ YB ++ L.take 0) v5 w5) := Lib.hid (by rw [List.take_zero, List.append_nil]; exact HO5.out)
      clear q0 q1 t0 t1 i0 i1 s0 s1 CT' CI BT BI CD BD C2 B2 HO HRI HO5
      try clear HRR
      try clear HOO
      go_wp2
      go_loopw [5, 6] (fun b i wr => ∃ k : Nat, k ≤ L.length ∧ i = .int .i64 (k : Int) ∧ Hid (Own (w.heap.size + 1) (DB ++ YB ++ L.take k) b wr) ∧ Hid (LSt w.heap.size P x (.slice a L.length cap) wr) ∧ Hid (Below w.heap.size w wr)) (fun _ i _ => L.length - (intOf i).toNat)
      case atStart => exact ⟨0, by omega, rfl, HO7, C5, B5⟩
      case round =>
        clear HO7 C5 B5
        obtain ⟨k, hk, rfl, HW, HC, HBW⟩ := hrel
        obtain ⟨⟨p0, p1, p2⟩, -⟩ := HC.out
        by_cases hlt : k < L.length
        · obtain ⟨_, b, off, rfl, hb, hc⟩ := HR.out.cellAt HBW.out hlt
          have hz := HM.out k hlt
          have HSS := Lib.hid (HSU.out k hlt)
          have HTL := Lib.hid (List.length_take (i := k) (l := L))
          have hkI : (k : Int) < (L.length : Int) := by omega
          have hcv := u8_in hz
          generalize L.getD k 0 = z at *
          go_wp2_with (at_builtin; refine wp_app rfl _ _ _ rfl (w.heap.size + 1) (DB ++ YB ++ L.take k) [z] _ _ rfl rfl (HW.out.alloc _) (Own.one hz wr).rd.src (Nat.le_trans HC.out.size (b1 _).size) ?c3 ?_)
          case c3 => have h2 := HTL.out; have h3 := HDL.out; have h4 := HBE.out; simp; omega
          intro v4 w4 ho4 hb4
          have HO4 : Hid (Own (w.heap.size + 1) (DB ++ YB ++ L.take (k + 1)) v4 w4) := Lib.hid (by rw [HSS.out]; first | exact ho4 | (simp only [List.append_assoc] at ho4 ⊢; exact ho4))
          have C4 := Lib.hid ((HC.out.go (b1 (.cells #[.int .u8 z] 5))).below hb4 (Nat.lt_succ_self _))
          have HB4 := Lib.hid ((bal HBW.out (.cells #[.int .u8 z] 5)).trans (hb4.mono (Nat.le_succ _)))
          clear ho4 hb4
          go_wp2
          go_roundw
          case rel => exact ⟨k + 1, by omega, by go_num, HO4, C4, HB4⟩
          case measure => simp [intOf]; omega
        · obtain rfl : k = L.length := by omega
          go_wp2
          go_ret2
          have h := HW.out.mono (Nat.le_succ _)
          rw [List.take_length] at h
          exact ⟨_, rfl, h, HBW.out⟩
  · rw [if_neg hE]
    have hE2 : (llE P L != 0) = true := by simpa using hE
    generalize llE P L = E at *
    clear hE
    go_enter Tryd.func28, Tryd.ntmps28
    go_wp2_with (go_at_call 22; (with_reducible refine (h1 _ HB0.out).mono ?_); rintro e w2 ⟨rfl, hb2⟩; have B2 := Lib.hid (bgo HB0.out hb2); clear hb2)
    go_ret2
    exact ⟨_, rfl, Own.empty _ _, B2.out⟩
end Go.Proofs.YtgnopnifdiipkaaDoor
