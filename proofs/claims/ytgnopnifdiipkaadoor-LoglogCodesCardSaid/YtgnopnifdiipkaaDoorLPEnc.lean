/- The contract of loglog.Encode. -/
import Derived.Test.YtgnopnifdiipkaaDoorLPVal
import Derived.Test.YtgnopnifdiipkaaDoorLPkF
import Derived.Test.YtgnopnifdiipkaaDoorRLEnc
namespace Go.Proofs.YtgnopnifdiipkaaDoor
open Go.RowKit
set_option linter.unusedVariables false
set_option linter.unusedSimpArgs false
set_option maxRecDepth 100000 in
set_option maxHeartbeats 2000000 in
theorem lenc_any (c : LL) (v : Value) (w : World) (x0 : 0 ≤ c.x) (x1 : c.x ≤ 18446744073709551615) (hv : RdL c v w) :
    Calls Tryd.prog 27 #[v] w fun e w' => ∃ u, e = .returned (.tuple #[u, .int .i64 (llE c.P c.L)]) ∧ Own w.heap.size (codL c) u w' ∧ Below w.heap.size w w' := by
  obtain ⟨P, x, L⟩ := c
  obtain ⟨a, n, cap, rfl, hR⟩ := hv
  dsimp only at x0 x1 hR ⊢
  have h1 := fun (w' : World) (hb : Below w.heap.size w w') => lval_any P x L a n cap w' (hR.below hb)
  have C0 := Lib.hid (LSt.new P x (.slice a n cap) 26 w)
  have HB0 := Lib.hid (b1 (a := w) (.cells #[.int .i64 P, .int .u64 x, .slice a n cap] 26))
  unfold codL
  dsimp only
  by_cases hE : llE P L = 0
  · rw [if_pos hE, hE]
    obtain ⟨⟨P0, P1⟩, hlen, hreg⟩ := llE_ok hE
    rw [hE] at h1
    have hN := llN_bd ⟨P0, P1⟩
    have hl2 : L.length ≤ 256 := by omega
    obtain ⟨d, hd⟩ : ∃ d : Nat, P = (d : Int) := ⟨P.toNat, by omega⟩
    obtain ⟨y, hy⟩ : ∃ y : Nat, x = (y : Int) := ⟨x.toNat, by omega⟩
    have h2 := fun w => encUint_any (d : Int) w (by omega) (by omega)
    have he1 : encE (d : Int) = 0 := by unfold encE; rw [if_pos (by omega)]
    have he2 : encB (d : Int) = uintB d := by unfold encB; rw [if_pos (by omega), Int.toNat_natCast]
    rw [he1, he2, ← hd] at h2
    have hwd := fun w => encWord_any y w (by omega)
    rw [← hy] at hwd
    have HDL := Lib.hid (uintB_len d (by omega)).2
    have HX := Lib.hid (show be x.toNat 8 = be y 8 by rw [hy, Int.toNat_natCast])
    have HX1 := Lib.hid (show uintB P.toNat = uintB d by rw [hd, Int.toNat_natCast])
    have HBE := Lib.hid (be_len y 8)
    have hrd : ∀ j, 0 ≤ L.getD j 0 ∧ L.getD j 0 ≤ 255 := fun j => by
      by_cases hj : j < L.length
      · have := hreg (L[j]) (List.getElem_mem hj)
        simp only [List.getD, List.getElem?_eq_getElem hj, Option.getD_some]
        omega
      · simp [List.getD, List.getElem?_eq_none (Nat.le_of_not_lt hj)]
    have hpack := fun (w' : World) (hb : Below w.heap.size w w') => lpack_any P x L a n cap w' (hR.below hb) hl2 hrd
    have HPL := Lib.hid (padK_len (Nat.le_refl L.length) hl2)
    have HPB := Lib.hid (padK_byt (k := L.length) hrd)
    have HPT := Lib.hid (padK_take hl2)
    obtain ⟨a', cap', he⟩ := hR.shape
    simp only [Value.slice.injEq] at he
    obtain ⟨rfl, rfl, rfl⟩ := he
    rw [HX.out, HX1.out]
    have hli : (L.length : Int) ≤ 256 := by omega
    generalize padK L L.length = Z at *
    generalize be y 8 = YB at *
    generalize uintB d = DB at *
    clear hE HX HX1 hd hy hreg hN hlen hR he1 he2 hrd
    go_enter Tryd.func27, Tryd.ntmps27
    go_wp2_with (first
      | (go_at_call 21; (with_reducible refine (h1 _ HB0.out).mono ?_); rintro e w2 ⟨rfl, hb2⟩; have B2 := Lib.hid (bgo HB0.out hb2); have C2 := Lib.hid (C0.out.below hb2 (by simp)); obtain ⟨⟨q0, q1, q2⟩, -⟩ := C2.out; clear hb2 h1 C0 HB0)
      | (go_at_call 50; (with_reducible refine (h2 _).mono ?_); rintro e w3 ⟨v3, rfl, ho3, hb3⟩; have C3 := Lib.hid (C2.out.go hb3); have B3 := Lib.hid (bgo B2.out hb3); have O3 := Lib.hid (Own.mono ho3 (B' := w.heap.size + 1) C2.out.size); clear q0 q1 q2; obtain ⟨⟨q0, q1, q2⟩, -⟩ := C3.out; clear ho3 hb3 h2 C2 B2)
      | (go_at_call 51; (with_reducible refine (hwd _).mono ?_); rintro e w4 ⟨v4, rfl, ho4, hb4⟩; have C4 := Lib.hid (C3.out.go hb4); have B4 := Lib.hid (bgo B3.out hb4); have O4 := Lib.hid (O3.out.below hb4); have R4 := Lib.hid ho4.rd.src; clear q0 q1 q2 ho4 hb4 hwd C3 B3 O3)
      | (at_builtin; refine wp_app rfl _ _ _ rfl (w.heap.size + 1) DB YB _ _ rfl rfl O4.out R4.out C4.out.size (by have := HDL.out; have := HBE.out; omega) ?_; intro v5 w5 ho5 hb5; have C5 := Lib.hid (C4.out.below hb5 (Nat.lt_succ_self _)); have B5 := Lib.hid (B4.out.trans (hb5.mono (Nat.le_succ _))); have O5 := Lib.hid ho5; obtain ⟨⟨q0, q1, q2⟩, -⟩ := C5.out; clear ho5 hb5 C4 B4 O4 R4)
      | (go_at_call 44; (with_reducible refine (hpack _ B5.out).mono ?_); rintro e w6 ⟨rfl, hb6⟩; have B6 := Lib.hid (bgo B5.out hb6); have C6 := Lib.hid (C5.out.go hb6); have O6 := Lib.hid (O5.out.below hb6); have K6 := Lib.hid (PkAt.new w6); clear q0 q1 q2 hb6 hpack C5 B5 O5)
      | (refine wp_store_pk rfl _ _ rfl w6.heap.size rfl K6.out rfl HPB.out HPL.out ?_; intro w7 hk7 ho7; have K7 := Lib.hid hk7; have hb7 : Below w6.heap.size w6 w7 := (b1 _).trans ho7.1; have B7 := Lib.hid (bgo B6.out hb7); have C7 := Lib.hid (C6.out.go hb7); have O7 := Lib.hid (O6.out.below hb7); have R7 := hk7.rd (n := L.length) (c := 256) hl2 hl2 (by decide); rw [HPT.out] at R7; have S7 := Lib.hid R7.src; obtain ⟨⟨q0, q1, q2⟩, -⟩ := C7.out; clear hk7 ho7 hb7 R7 K6 B6 C6 O6)
      | (at_builtin; refine wp_app rfl _ _ _ rfl (w.heap.size + 1) (DB ++ YB) L _ _ rfl rfl O7.out S7.out C7.out.size (by have := HDL.out; have := HBE.out; simp; omega) ?_; intro v8 w8 ho8 hb8; have B8 := Lib.hid (B7.out.trans (hb8.mono (Nat.le_succ _))); have O8 := Lib.hid ho8; clear ho8 hb8 C7 B7 O7 S7))
    go_ret2
    exact ⟨_, rfl, O8.out.mono (Nat.le_succ _), B8.out⟩
  · rw [if_neg hE]
    have hE2 : (llE P L != 0) = true := by simpa using hE
    generalize llE P L = E at *
    clear hE
    go_enter Tryd.func27, Tryd.ntmps27
    go_wp2_with (go_at_call 21; (with_reducible refine (h1 _ HB0.out).mono ?_); rintro e w2 ⟨rfl, hb2⟩; have B2 := Lib.hid (bgo HB0.out hb2); clear hb2)
    go_ret2
    exact ⟨_, rfl, Own.empty _ _, B2.out⟩
end Go.Proofs.YtgnopnifdiipkaaDoor
