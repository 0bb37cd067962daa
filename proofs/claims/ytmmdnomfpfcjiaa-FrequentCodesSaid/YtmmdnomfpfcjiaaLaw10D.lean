/- RdIn, FcB, FcD, FcE, Law10C: in one text. -/
import Derived.Test.YtmmdnomfpfcjiaaWords
import Derived.Test.YtmmdnomfpfcjiaaFcA
import Derived.Test.YtmmdnomfpfcjiaaRFVal
import Derived.Test.YtmmdnomfpfcjiaaMeetX
import Derived.Test.YtmmdnomfpfcjiaaFcC
import Derived.Test.YtmmdnomfpfcjiaaSkQ
import Derived.Test.YtmmdnomfpfcjiaaSpoilQ
import Derived.Test.YtmmdnomfpfcjiaaMadeQ
import Derived.Deep.Cut
import Derived.Deep.RegionHeld3
namespace Go.Proofs.Ytmmdnomfpfcjiaa
open Go.RowKit
set_option linter.unusedVariables false
set_option linter.unusedSimpArgs false
/-- A slice of bytes that came in can be read. -/
theorem inRow_rd {W : World} {a : Option Addr} {n cap : Nat} {z : List Int} (h : InRow .u8 W a n cap z) : Rd (z.take n) (.slice a n cap) W := by
  obtain ⟨h1, h2, h3, h4, h5⟩ := h
  have hl : (z.take n).length = n := by simp; omega
  have hy : Byt (z.take n) := fun x hx => by
    have := h4 x (List.mem_of_mem_take hx)
    simpa [Lit.wf, IntKind.min, IntKind.max, IntKind.signed, IntKind.bits] using this
  refine ⟨hy, a, cap, by rw [hl], by omega, h2, fun hp => ?_⟩
  obtain ⟨b, off, rfl, hb, hc⟩ := h5 (by omega)
  refine ⟨b, off, rfl, hb, fun j hj => ?_⟩
  rw [hc j (by omega)]
  simp [List.getD, List.getElem?_take, show j < n by omega]
theorem wf_bd8 {n : Int} (h : (Lit.int .u8 n).wf = true) : 0 ≤ n ∧ n ≤ 255 := by
  simpa [Lit.wf, IntKind.min, IntKind.max, IntKind.signed, IntKind.bits] using h
/-- append, onto bytes of the call's own, as one step of a region that draws its order: just its own row turns. -/
theorem step_appL8 {w : World} {ops : Array Oper} {o : Oper} {a : Act} {K : Act → World → Prop} {Q : Exit → Act → World → Prop} {E : Prop} (hgd : o.guard = none) (s x : Operand) (tx : TypeId)
    (ho : o.op = .call { callee := .builtin .append, args := #[s, x], argTypes := #[42, tx] }) (B : Nat) (L M : List Int) (v u : Value) (hs : a.eval s = v) (hx : a.eval x = u)
    (hown : Own B L v w) (hsrc : From M tx u w) (hB : B ≤ w.heap.size) (hn : L.length + M.length ≤ 140737488355328)
    (h : ∀ v' w', Own B (L ++ M) v' w' → Below B w w' → Lone v w w' → K (a.put o.dst v') w') : if Region.wanted o (yielded ops a.tmps) = true then Oper.wp Try.prog o a w K Q else E := by
  have hw : Region.wanted o (yielded ops a.tmps) = true := by simp [Region.wanted, hgd]
  rw [if_pos hw]
  obtain ⟨i0, hi, hz0, hz1, hz2⟩ := info_parts info_u8
  obtain ⟨v', w', hr, h1, h2⟩ := run_own_src (P := Try.prog) w B 42 tx o.type 5 i0 (.int .u8 0) 1 1 Try.underlying42 hi hz0 hz1 hz2 rfl (by decide) v L.length (cells8 L) hown.2 u M.length (cells8 M) hsrc.2 (by unfold maxLen; omega) (by omega) hB
  unfold Oper.wp execOp
  simp only [ho, resolve, invoke, builtin, Sem.run_bind, Sem.run_pure, Result.andThen_ok, List.map_toArray, List.map_cons, List.map_nil, hs, hx, hr]
  have hb := (Below.refl B w).grown h2 hB (fun k hk => (World.ownsRow.lt hown.2 k hk).1)
  refine h v' w' ⟨hown.1.app hsrc.1, ?_⟩ hb ⟨hb.size, fun g hg hne => h2.block g hg (Ne.symm hne)⟩
  rw [List.length_append, cells8_app]
  exact h1
/-- Newer bytes stay where older ones are appended to. -/
theorem Own.aside {B1 : Nat} {L : List Int} {u v : Value} {w w' : World} (h : Own B1 L u w) (hl : Lone v w w') (hk : ∀ g, v.ownBlock = some g → g < B1) : Own B1 L u w' :=
  ⟨h.1, row_keep h.2 (fun g hg e => hl.2 g hg (fun e' => absurd (hk g e') (Nat.not_lt.2 (World.ownsRow.lt h.2 g e).1)))⟩
set_option maxRecDepth 100000 in
set_option maxHeartbeats 4000000 in
theorem rencQ_any (S T K : Int) (L : List Ent) (s : Bool) (a : Option Addr) (n cap : Nat) (w : World) (hr : RdE L (.slice a n cap) w) (hn : L.length ≤ 549755813888) :
    Calls Try.prog 22 #[.agg #[.int .i64 S, .int .i64 T, .int .i64 K, .slice a n cap, .bool s]] w fun e w' => ∃ v, e = .returned (.tuple #[v, .int .i64 (valQ S T K L)]) ∧ Own w.heap.size (codQ S T K L s) v w' ∧ Below w.heap.size w w' := by
  obtain ⟨a', cap', he⟩ := hr.shape
  simp only [Value.slice.injEq] at he
  obtain ⟨rfl, rfl, rfl⟩ := he
  have hy := hr.1
  have HR := Lib.hid hr
  have HV := Lib.hid (fun (w' : World) (hb : Below w.heap.size w w') => rvalQ_any S T K L s a L.length cap w' (hr.below hb) hn)
  have C0 := Lib.hid (FqS.new S T K (.slice a L.length cap) s 25 w)
  have B0 := Lib.hid (b1 (a := w) (.cells #[.int .i64 S, .int .i64 T, .int .i64 K, .slice a L.length cap, .bool s] 25))
  clear hr
  unfold codQ
  by_cases hE : valQ S T K L = 0
  · rw [if_pos hE]
    have hval := valQ_ok hE
    rw [hE] at HV ⊢
    have hs0 := hval.s0
    have hs1 := hval.s1
    have ht0 := hval.t0
    have ht1 := hval.t1
    have hk0 := hval.k0
    have hk1 := hval.k1
    have hsm := hval.small
    have HEN := Lib.hid (fun i (hi : i < L.length) => entQ_zero (hval.ent i hi))
    have hall : ∀ x ∈ L, entQ x = 0 := fun x hx => by
      obtain ⟨i, hi, rfl⟩ := List.mem_iff_getElem.1 hx
      have := hval.ent i hi
      simpa [List.getD, hi] using this
    have HBL := Lib.hid (fun k => entsB_len (L := L.take k) (fun x hx => hall x (List.mem_of_mem_take hx)))
    have HSU := Lib.hid (fun k (h : k < L.length) => entsB_succ h)
    have HT := Lib.hid (show L.take L.length = L from List.take_length)
    obtain ⟨z, hz⟩ : ∃ z : Nat, S = (z : Int) := ⟨S.toNat, by omega⟩
    obtain ⟨t, ht⟩ : ∃ t : Nat, T = (t : Int) := ⟨T.toNat, by omega⟩
    obtain ⟨y, hy0⟩ : ∃ y : Nat, K = (y : Int) := ⟨K.toNat, by omega⟩
    have HU1 := Lib.hid (fun w => ruint_any z w (by omega))
    have HU4 := Lib.hid (fun w => ruint_any y w (by omega))
    have HU2 := Lib.hid (fun w => ruint_any t w (by omega))
    have HU3 := Lib.hid (fun w => ruint_any L.length w (by omega))
    have HFL := Lib.hid (fun w => flag_any s w)
    have h1 := (uintB_len z (by omega)).2
    have h2 := (uintB_len t (by omega)).2
    have h3 := (uintB_len (flagN s) (by unfold flagN; split <;> omega)).2
    have h4 := (uintB_len L.length (by omega)).2
    have h5 := (uintB_len y (by omega)).2
    have HHD : Hid (hdB S T K s L.length = uintB z ++ uintB t ++ uintB y ++ uintB (flagN s) ++ uintB L.length) := Lib.hid (by unfold hdB; rw [hz, ht, hy0, Int.toNat_natCast, Int.toNat_natCast, Int.toNat_natCast])
    rw [HHD.out]
    rw [← hz] at HU1
    rw [← ht] at HU2
    rw [← hy0] at HU4
    generalize uintB z = DA at *
    generalize uintB t = DB at *
    generalize uintB y = DE at *
    generalize uintB (flagN s) = DC at *
    generalize uintB L.length = DD at *
    have HLA := Lib.hid (⟨h1, h2, h3, h4, h5⟩ : DA.length ≤ 9 ∧ DB.length ≤ 9 ∧ DC.length ≤ 9 ∧ DD.length ≤ 9 ∧ DE.length ≤ 9)
    obtain ⟨hd, hhd⟩ : ∃ hd, hd = DA ++ DB ++ DE ++ DC ++ DD := ⟨_, rfl⟩
    rw [← hhd]
    have HH9 := Lib.hid hhd
    clear hE hval hall h1 h2 h3 h4 h5 HHD hz ht hy0 hhd
    go_enter Try.func22, Try.ntmps22
    go_upto_region 4 with (go_at_call 17; (with_reducible refine (HV.out _ B0.out).mono ?_); rintro e w2 ⟨rfl, hb2⟩; have B2 := Lib.hid (bgo B0.out hb2); have C2 := Lib.hid (C0.out.below hb2 C0.out.lt); clear hb2)
    have D2 : Hid (FqS w.heap.size S T K (.slice a L.length cap) s w2.drew) := Lib.hid (C2.out.below (Below.refl _ _).drew C2.out.lt)
    have E2 : Hid (Below w.heap.size w w2.drew) := Lib.hid B2.out.drew
    have S0 := D2.out.1
    clear HV C0 B0
    refine wp_meetX 5 12 7 (fun v wx => Hid (Own (w.heap.size + 1) (DA ++ DB) v wx ∧ FqS w.heap.size S T K (.slice a L.length cap) s wx ∧ Below w.heap.size w wx)) ?_ ?_
    · intro G hG
      go_region_held3 (fun u => u.cell? ⟨w.heap.size, 0, none⟩ = some (.int .i64 S) ∧ u.cell? ⟨w.heap.size, 1, none⟩ = some (.int .i64 T) ∧ u.cell? ⟨w.heap.size, 2, none⟩ = some (.int .i64 K) ∧ u.cell? ⟨w.heap.size, 3, none⟩ = some (.slice a L.length cap) ∧ u.cell? ⟨w.heap.size, 4, none⟩ = some (.bool s)) (first | with_reducible assumption | go_keep) (first
        | (go_at_call 43; (with_reducible refine (HU2.out _).mono ?_); rintro e w4 ⟨v4, rfl, ho4, hb4⟩; have O4 := Lib.hid (O3.out.below hb4); have R4 := Lib.hid ho4.rd.src; have C4 := Lib.hid (C3.out.below hb4 C3.out.lt); have B4 := Lib.hid (bgo B3.out hb4); have S4 := C4.out.1; clear ho4 hb4)
        | (go_at_call 43; (with_reducible refine (HU1.out _).mono ?_); rintro e w3 ⟨v3, rfl, ho3, hb3⟩; have O3 := Lib.hid (Own.mono ho3 (B' := w.heap.size + 1) (by have := D2.out.lt; omega)); have C3 := Lib.hid (D2.out.below hb3 D2.out.lt); have B3 := Lib.hid (bgo E2.out hb3); have S3 := C3.out.1; clear ho3 hb3)
        | (refine step_appL8 rfl _ _ _ rfl (w.heap.size + 1) DA DB _ _ rfl rfl O4.out R4.out C4.out.lt (by have := HLA.out; omega) ?_; (intro v5 w5 ho5 hb5 hl5; have O5 := Lib.hid ho5; have C5 := Lib.hid (C4.out.below hb5 (Nat.lt_succ_self _)); have B5 := Lib.hid (B4.out.trans (hb5.mono (Nat.le_succ _))); have S5 := C5.out.1; clear ho5 hb5 hl5)))
      all_goals
        exact hG _ _ _ ⟨[_, _, _, _, _, _, _], rfl, rfl⟩ (Lib.hid ⟨O5.out, C5.out, B5.out⟩)
    intro aX wX vX hoff HX
    obtain ⟨us, hus, rfl⟩ := hoff
    match us, hus with
    | [u0, u1, u2, u3, u4, u5, u6], _ =>
      simp only [List.set_cons_succ, List.set_cons_zero, List.take_succ_cons, List.take_zero, List.drop_succ_cons, List.drop_zero, List.cons_append, List.nil_append]
      clear S0 D2 E2 B2 C2 HU1 HU2
      go_upto_region 5 with (fail)
      have S0 := HX.out.2.1.1
      have HXd : Hid (Own (w.heap.size + 1) (DA ++ DB) vX wX.drew ∧ FqS w.heap.size S T K (.slice a L.length cap) s wX.drew ∧ Below w.heap.size w wX.drew) := Lib.hid ⟨HX.out.1.below (Below.refl _ _).drew, HX.out.2.1.below (Below.refl _ _).drew HX.out.2.1.lt, HX.out.2.2.drew⟩
      have S1 := HXd.out.2.1.1
      refine wp_meetX 5 19 9 (fun v wx => Hid (Own (w.heap.size + 1) (DA ++ DB ++ DE ++ DC) v wx ∧ FqS w.heap.size S T K (.slice a L.length cap) s wx ∧ Below w.heap.size w wx)) ?_ ?_
      · intro G hG
        go_region_held3 (fun u => u.cell? ⟨w.heap.size, 0, none⟩ = some (.int .i64 S) ∧ u.cell? ⟨w.heap.size, 1, none⟩ = some (.int .i64 T) ∧ u.cell? ⟨w.heap.size, 2, none⟩ = some (.int .i64 K) ∧ u.cell? ⟨w.heap.size, 3, none⟩ = some (.slice a L.length cap) ∧ u.cell? ⟨w.heap.size, 4, none⟩ = some (.bool s)) (first | with_reducible assumption | go_keep) (first
          | (go_at_call 44; (with_reducible refine (HFL.out _).mono ?_); rintro e w5 ⟨v5, rfl, ho5, hb5⟩; (have K5 := Lib.hid (fun g e => (World.ownsRow.lt O4.out.2 g e).2)); have O5 := Lib.hid (O4.out.below hb5); have U5 := Lib.hid ho5; have C5 := Lib.hid (C4.out.below hb5 C4.out.lt); have B5 := Lib.hid (bgo B4.out hb5); have Sa5 := C5.out.1; clear ho5 hb5)
          | (go_at_call 44; (with_reducible refine (HFL.out _).mono ?_); rintro e w5 ⟨v5, rfl, ho5, hb5⟩; (have K5 := Lib.hid (fun g e => (World.ownsRow.lt O3.out.2 g e).2)); have O5' := Lib.hid (O3.out.below hb5); have R5' := Lib.hid (R3.out.below hb5); have U5' := Lib.hid ho5; have C5' := Lib.hid (C3.out.below hb5 C3.out.lt); have B5' := Lib.hid (bgo B3.out hb5); have Sa5p := C5'.out.1; clear ho5 hb5)
          | (go_at_call 43; (with_reducible refine (HU4.out _).mono ?_); rintro e w3 ⟨v3, rfl, ho3, hb3⟩; have O3 := Lib.hid (HXd.out.1.below hb3); have R3 := Lib.hid ho3.rd; have C3 := Lib.hid (HXd.out.2.1.below hb3 HXd.out.2.1.lt); have B3 := Lib.hid (bgo HXd.out.2.2 hb3); have Sa3 := C3.out.1; clear ho3 hb3)
          | (refine step_appL8 rfl _ _ _ rfl (w.heap.size + 1) ((DA ++ DB) ++ DE) DC _ _ rfl rfl O5.out U5.out.rd.src C5.out.lt (by have := HLA.out; rw [List.length_append, List.length_append]; omega) ?_; (intro v6 w6 ho6 hb6 hl6; have O6 := Lib.hid ho6; have C6 := Lib.hid (C5.out.below hb6 (Nat.lt_succ_self _)); have B6 := Lib.hid (B5.out.trans (hb6.mono (Nat.le_succ _))); have Sa6 := C6.out.1; clear ho6 hb6 hl6))
          | (refine step_appL8 rfl _ _ _ rfl (w.heap.size + 1) (DA ++ DB) DE _ _ rfl rfl O5'.out R5'.out.src C5'.out.lt (by have := HLA.out; rw [List.length_append]; omega) ?_; (intro v4 w4 ho4 hb4 hl4; have O5 := Lib.hid ho4; have U5 := Lib.hid (U5'.out.aside hl4 K5.out); have C5 := Lib.hid (C5'.out.below hb4 (Nat.lt_succ_self _)); have B5 := Lib.hid (B5'.out.trans (hb4.mono (Nat.le_succ _))); have Sa5 := C5.out.1; clear ho4 hb4 hl4))
          | (refine step_appL8 rfl _ _ _ rfl (w.heap.size + 1) (DA ++ DB) DE _ _ rfl rfl O3.out R3.out.src C3.out.lt (by have := HLA.out; rw [List.length_append]; omega) ?_; (intro v4 w4 ho4 hb4 hl4; have O4 := Lib.hid ho4; have C4 := Lib.hid (C3.out.below hb4 (Nat.lt_succ_self _)); have B4 := Lib.hid (B3.out.trans (hb4.mono (Nat.le_succ _))); have Sa4 := C4.out.1; clear ho4 hb4 hl4)))
        all_goals
          exact hG _ _ _ ⟨[_, _, _, _, _, _, _, _, _], rfl, rfl⟩ (Lib.hid ⟨O6.out, C6.out, B6.out⟩)
      intro aY wY vY hoff HY
      obtain ⟨us, hus, rfl⟩ := hoff
      match us, hus with
      | [y0, y1, y2, y3, y4, y5, y6, y7, y8], _ =>
        simp only [List.set_cons_succ, List.set_cons_zero, List.take_succ_cons, List.take_zero, List.drop_succ_cons, List.drop_zero, List.cons_append, List.nil_append]
        clear S0 S1 HX HXd HU4 HFL
        have HHL : Hid (hd.length ≤ 45) := Lib.hid (by have := HLA.out; rw [HH9.out]; simp only [List.length_append]; omega)
        obtain ⟨⟨p0, p1, p2, p3, p4⟩, -⟩ := HY.out.2.1
        go_upto_region 7 with (first
          | (go_at_call 43; (with_reducible refine (HU3.out _).mono ?_); rintro e w4 ⟨v4, rfl, ho4, hb4⟩; have O4 := Lib.hid (HY.out.1.below hb4); have R4 := Lib.hid ho4.rd.src; have C4 := Lib.hid (HY.out.2.1.below hb4 HY.out.2.1.lt); have B4 := Lib.hid (bgo HY.out.2.2 hb4); clear ho4 hb4)
          | (at_builtin; refine wp_appL8 rfl _ _ _ rfl (w.heap.size + 1) (DA ++ DB ++ DE ++ DC) DD _ _ rfl rfl O4.out R4.out C4.out.lt (by have := HLA.out; simp only [List.length_append]; omega) ?_; (intro v5 w5 ho5 hb5 hl5; have O5 := Lib.hid ho5; have C5 := Lib.hid (C4.out.below hb5 (Nat.lt_succ_self _)); have B5 := Lib.hid (B4.out.trans (hb5.mono (Nat.le_succ _))); clear ho5 hb5 hl5 O4 R4 C4 B4)))
        have HI : Hid (Own (w.heap.size + 1) (hd ++ entsB (L.take 0)) v5 w5 ∧ FqS w.heap.size S T K (.slice a L.length cap) s w5 ∧ Below w.heap.size w w5) := Lib.hid ⟨by rw [List.take_zero, entsB_nil, List.append_nil, HH9.out]; exact O5.out, C5.out, B5.out⟩
        clear HY HH9 O5 C5 B5 HU3 p0 p1 p2 p3 p4
        go_wp2
        go_loopw [5, 6] (fun b i wr => ∃ k : Nat, k ≤ L.length ∧ i = .int .i64 (k : Int) ∧ Hid (Own (w.heap.size + 1) (hd ++ entsB (L.take k)) b wr ∧ FqS w.heap.size S T K (.slice a L.length cap) s wr ∧ Below w.heap.size w wr)) (fun _ i _ => L.length - (intOf i).toNat)
        case atStart => exact ⟨0, by omega, rfl, HI⟩
        case round =>
          clear HI
          obtain ⟨k, hk, rfl, HI⟩ := hrel
          obtain ⟨⟨p0, p1, p2, p3, p4⟩, -⟩ := HI.out.2.1
          by_cases hlt : k < L.length
          · have hRw := HR.out.below HI.out.2.2
            obtain ⟨-, a1, cap1, he1, -, -, hc1⟩ := HR.out
            simp only [Value.slice.injEq, true_and] at he1
            obtain ⟨rfl, rfl⟩ := he1
            obtain ⟨b, off, rfl, hb, hcell⟩ := hc1 (by omega)
            have hcw := hcell k hlt
            have HCB := Lib.hid (fun (u : World) (hu : Below w.heap.size w u) => hcw.below hu hb)
            obtain ⟨c0, c1, c2⟩ := HCB.out _ HI.out.2.2
            have hlt2 : (k : Int) < (L.length : Int) := by omega
            have hlL : (L.length : Int) ≤ 32 := by omega
            have hk0 : (0 : Int) ≤ (k : Int) := by omega
            have hen := HEN.out k hlt
            have hbl := HBL.out k
            have hkl : (L.take k).length ≤ 32 := by rw [List.length_take]; omega
            have HSS := Lib.hid (HSU.out k hlt)
            have hhl := HHL.out
            clear hc1 hcell hb hcw hRw
            generalize L.getD k Ent.z = X at *
            have hkb := keyB_len hen.1
            have hkb2 : X.k.size ≤ 65536 := by rw [byt_len] at hkb; exact hkb
            have HTX := Lib.hid (fun w => rtext_any X.k w hkb2)
            have htb : textB (byt X.k) = uintB X.k.size ++ byt X.k := by unfold textB; rw [if_pos hkb, byt_len]
            rw [← htb] at HTX
            have htx : (textB (byt X.k)).length ≤ 65560 := by
              rw [htb, List.length_append]
              have := (uintB_len X.k.size (by omega)).2
              omega
            obtain ⟨xc, hxc⟩ : ∃ xc : Nat, X.c = (xc : Int) := ⟨X.c.toNat, by omega⟩
            have HUC := Lib.hid (fun w => ruint_any xc w (by omega))
            have hl1 := (uintB_len xc (by omega)).2
            have HEB : Hid (entB X = textB (byt X.k) ++ uintB xc) := Lib.hid (by unfold entB; rw [hxc, Int.toNat_natCast])
            rw [← hxc] at HUC
            generalize textB (byt X.k) = TB at *
            generalize uintB xc = BC at *
            have HLN : Hid ((hd ++ entsB (L.take k)).length + TB.length ≤ 140737488355328 ∧ (hd ++ entsB (L.take k) ++ TB).length + BC.length ≤ 140737488355328) := Lib.hid (by simp only [List.length_append]; omega)
            clear hen hbl hkl htx hkb hkb2 htb HEN HBL HSU hxc hl1
            go_upto_region 10 with (fail)
            have HZd : Hid (Own (w.heap.size + 1) (hd ++ entsB (L.take k)) _ wr.drew ∧ FqS w.heap.size S T K (.slice (some ⟨b, off, none⟩) L.length cap) s wr.drew ∧ Below w.heap.size w wr.drew) := Lib.hid ⟨HI.out.1.below (Below.refl _ _).drew, HI.out.2.1.below (Below.refl _ _).drew HI.out.2.1.lt, HI.out.2.2.drew⟩
            have S0 := (⟨HI.out.2.1.1.2.2.2.1, (HCB.out _ HI.out.2.2).1, (HCB.out _ HI.out.2.2).2.1⟩ : wr.cell? ⟨w.heap.size, 3, none⟩ = some (.slice (some ⟨b, off, none⟩) L.length cap) ∧ wr.cell? ⟨b, off + k * 3, none⟩ = some (.string X.k) ∧ wr.cell? ⟨b, off + k * 3 + 1, none⟩ = some (.int .i64 X.c))
            have S1 := (⟨HZd.out.2.1.1.2.2.2.1, (HCB.out _ HZd.out.2.2).1, (HCB.out _ HZd.out.2.2).2.1⟩ : wr.drew.cell? ⟨w.heap.size, 3, none⟩ = some (.slice (some ⟨b, off, none⟩) L.length cap) ∧ wr.drew.cell? ⟨b, off + k * 3, none⟩ = some (.string X.k) ∧ wr.drew.cell? ⟨b, off + k * 3 + 1, none⟩ = some (.int .i64 X.c))
            have HCS : Hid (∀ u : World, FqS w.heap.size S T K (.slice (some ⟨b, off, none⟩) L.length cap) s u → Below w.heap.size w u → u.cell? ⟨w.heap.size, 3, none⟩ = some (.slice (some ⟨b, off, none⟩) L.length cap) ∧ u.cell? ⟨b, off + k * 3, none⟩ = some (.string X.k) ∧ u.cell? ⟨b, off + k * 3 + 1, none⟩ = some (.int .i64 X.c)) := Lib.hid (fun u hc hb => ⟨hc.1.2.2.2.1, (HCB.out u hb).1, (HCB.out u hb).2.1⟩)
            clear p0 p1 p2 p3 p4 c0 c1 c2
            obtain ⟨PP, hPP⟩ : ∃ PP, hd ++ entsB (L.take k) = PP := ⟨_, rfl⟩
            rw [hPP] at HZd HLN
            have HPP := Lib.hid hPP
            clear hPP
            refine wp_meetX 5 41 17 (fun v wx => Hid (Own (w.heap.size + 1) (PP ++ TB ++ BC) v wx ∧ FqS w.heap.size S T K (.slice (some ⟨b, off, none⟩) L.length cap) s wx ∧ Below w.heap.size w wx)) ?_ ?_
            · intro G hG
              go_region_held3 (fun u => u.cell? ⟨w.heap.size, 3, none⟩ = some (.slice (some ⟨b, off, none⟩) L.length cap) ∧ u.cell? ⟨b, off + k * 3, none⟩ = some (.string X.k) ∧ u.cell? ⟨b, off + k * 3 + 1, none⟩ = some (.int .i64 X.c)) (first | with_reducible assumption | go_keep) (first
                | (go_at_call 43; (with_reducible refine (HUC.out _).mono ?_); rintro e w5 ⟨v5, rfl, ho5, hb5⟩; (have K5 := Lib.hid (fun g e => (World.ownsRow.lt O4.out.2 g e).2)); have O5 := Lib.hid (O4.out.below hb5); have U5 := Lib.hid ho5; have C5 := Lib.hid (C4.out.below hb5 C4.out.lt); have B5 := Lib.hid (bgo B4.out hb5); have Sb5 := HCS.out _ C5.out B5.out; clear ho5 hb5)
                | (go_at_call 43; (with_reducible refine (HUC.out _).mono ?_); rintro e w5 ⟨v5, rfl, ho5, hb5⟩; (have K5 := Lib.hid (fun g e => (World.ownsRow.lt O3.out.2 g e).2)); have O5' := Lib.hid (O3.out.below hb5); have R5' := Lib.hid (R3.out.below hb5); have U5' := Lib.hid ho5; have C5' := Lib.hid (C3.out.below hb5 C3.out.lt); have B5' := Lib.hid (bgo B3.out hb5); have Sb5p := HCS.out _ C5'.out B5'.out; clear ho5 hb5)
                | (go_at_call 45; (with_reducible refine (HTX.out _).mono ?_); rintro e w3 ⟨v3, rfl, ho3, hb3⟩; have O3 := Lib.hid (HZd.out.1.below hb3); have R3 := Lib.hid ho3.rd; have C3 := Lib.hid (HZd.out.2.1.below hb3 HZd.out.2.1.lt); have B3 := Lib.hid (bgo HZd.out.2.2 hb3); have Sb3 := HCS.out _ C3.out B3.out; clear ho3 hb3)
                | (refine step_appL8 rfl _ _ _ rfl (w.heap.size + 1) (PP ++ TB) BC _ _ rfl rfl O5.out U5.out.rd.src C5.out.lt (HLN.out.2) ?_; (intro v6 w6 ho6 hb6 hl6; have O6 := Lib.hid ho6; have C6 := Lib.hid (C5.out.below hb6 (Nat.lt_succ_self _)); have B6 := Lib.hid (B5.out.trans (hb6.mono (Nat.le_succ _))); have Sb6 := HCS.out _ C6.out B6.out; clear ho6 hb6 hl6))
                | (refine step_appL8 rfl _ _ _ rfl (w.heap.size + 1) PP TB _ _ rfl rfl O5'.out R5'.out.src C5'.out.lt (HLN.out.1) ?_; (intro v4 w4 ho4 hb4 hl4; have O5 := Lib.hid ho4; have U5 := Lib.hid (U5'.out.aside hl4 K5.out); have C5 := Lib.hid (C5'.out.below hb4 (Nat.lt_succ_self _)); have B5 := Lib.hid (B5'.out.trans (hb4.mono (Nat.le_succ _))); have Sb5 := HCS.out _ C5.out B5.out; clear ho4 hb4 hl4))
                | (refine step_appL8 rfl _ _ _ rfl (w.heap.size + 1) PP TB _ _ rfl rfl O3.out R3.out.src C3.out.lt (HLN.out.1) ?_; (intro v4 w4 ho4 hb4 hl4; have O4 := Lib.hid ho4; have C4 := Lib.hid (C3.out.below hb4 (Nat.lt_succ_self _)); have B4 := Lib.hid (B3.out.trans (hb4.mono (Nat.le_succ _))); have Sb4 := HCS.out _ C4.out B4.out; clear ho4 hb4 hl4)))
              all_goals
                exact hG _ _ _ ⟨[_, _, _, _, _, _, _, _, _, _, _, _, _, _, _, _, _], rfl, rfl⟩ (Lib.hid ⟨O6.out, C6.out, B6.out⟩)
            intro aW wW vW hoff HW
            obtain ⟨us, hus, rfl⟩ := hoff
            match us, hus with
            | [z0, z1, z2, z3, z4, z5, z6, z7, z8, z9, z10, z11, z12, z13, z14, z15, z16], _ =>
              simp only [List.set_cons_succ, List.set_cons_zero, List.take_succ_cons, List.take_zero, List.drop_succ_cons, List.drop_zero, List.cons_append, List.nil_append]
              have O9 : Hid (Own (w.heap.size + 1) (hd ++ entsB (L.take (k + 1))) vW wW) := Lib.hid (by rw [HSS.out, HEB.out, show hd ++ (entsB (L.take k) ++ (TB ++ BC)) = PP ++ TB ++ BC from by rw [← HPP.out]; simp only [List.append_assoc]]; exact HW.out.1)
              clear S0 S1 HI HZd HCB HCS
              go_wp2
              exact ⟨⟨k + 1, by omega, by go_num, Lib.hid ⟨O9.out, HW.out.2⟩⟩, by simp [intOf]; omega⟩
          · obtain rfl : k = L.length := by omega
            have hnlt : ¬ (L.length : Int) < (L.length : Int) := by omega
            have O6 := Lib.hid HI.out.1
            have B6 := Lib.hid HI.out.2.2
            rw [HT.out] at O6
            clear HI
            go_wp2
            go_ret2
            exact ⟨_, rfl, O6.out.mono (Nat.le_succ _), B6.out⟩
  · rw [if_neg hE]
    have hE2 : (valQ S T K L != 0) = true := by simpa using hE
    generalize valQ S T K L = E at *
    clear hE
    go_enter Try.func22, Try.ntmps22
    go_wp2_with (go_at_call 17; (with_reducible refine (HV.out _ B0.out).mono ?_); rintro e w2 ⟨rfl, hb2⟩; have B2 := Lib.hid (bgo B0.out hb2); clear hb2)
    go_ret2
    exact ⟨_, rfl, Own.empty _ _, B2.out⟩
/-- The state of Decode: the result's cells, the reader, the summary under way. -/
def DL (W : World) (g9 : Nat) (S T K : Int) (v : Value) (s : Bool) (R : List Int) (F : Bool) (w : World) : Prop :=
  FqS W.heap.size 0 0 0 (.slice none 0 0) false w ∧ DS W (W.heap.size + 1) R F w ∧ FqS g9 S T K v s w ∧ Below W.heap.size W w ∧ W.heap.size + 2 ≤ g9
section
variable {W w w' : World} {g9 : Nat} {S T K : Int} {v : Value} {s : Bool} {R R' : List Int} {F F' : Bool}
theorem DL.top (h : DL W g9 S T K v s R F w) : FqS g9 S T K v s w := h.2.2.1
theorem DL.res (h : DL W g9 S T K v s R F w) : FqS W.heap.size 0 0 0 (.slice none 0 0) false w := h.1
theorem DL.ds (h : DL W g9 S T K v s R F w) : DS W (W.heap.size + 1) R F w := h.2.1
theorem DL.bel (h : DL W g9 S T K v s R F w) : Below W.heap.size W w := h.2.2.2.1
theorem DL.room (h : DL W g9 S T K v s R F w) : W.heap.size + 2 ≤ g9 ∧ g9 < w.heap.size := ⟨h.2.2.2.2, h.2.2.1.lt⟩
theorem DL.keep (h : DL W g9 S T K v s R F w) (hb : Below (g9 + 1) w w') : DL W g9 S T K v s R F w' := by
  obtain ⟨h1, h2, h3, h4, h5⟩ := h
  exact ⟨h1.keep (hb.block _ (by omega)), h2.keep (hb.block _ (by omega)), h3.keep (hb.block _ (by omega)), h4.trans (hb.mono (by omega)), h5⟩
theorem DL.go (h : DL W g9 S T K v s R F w) (hb : Below w.heap.size w w') : DL W g9 S T K v s R F w' := h.keep (hb.mono h.room.2)
theorem DL.drew (h : DL W g9 S T K v s R F w) : DL W g9 S T K v s R F w.drew := h.go (Below.refl _ _).drew
theorem DL.turn (h : DL W g9 S T K v s R F w) (ho : One (W.heap.size + 1) w w') (hd : DS W (W.heap.size + 1) R' F' w') : DL W g9 S T K v s R' F' w' := by
  obtain ⟨h1, h2, h3, h4, h5⟩ := h
  exact ⟨h1.keep (ho.2.2 _ h1.lt (by omega)), hd, h3.keep (ho.2.2 _ h3.lt (by omega)), h4.trans (ho.1.mono (by omega)), h5⟩
theorem DL.put (h : DL W g9 S T K v s R F w) (a : Option Addr) (n c : Nat) : DL W g9 S T K (.slice a n c) s R F (w.setCell ⟨g9, 3, none⟩ (.slice a n c)) := by
  obtain ⟨h1, h2, ⟨⟨p0, p1, p2, p3, p4⟩, f0, f1, f2, f3, f4⟩, h4, h5⟩ := h
  exact ⟨h1.keep (Below.heap_setCell _ ⟨g9, 3, none⟩ _ _ (by show W.heap.size ≠ g9; omega)), h2.keep (Below.heap_setCell _ ⟨g9, 3, none⟩ _ _ (by show W.heap.size + 1 ≠ g9; omega)), ⟨⟨by go_simp, by go_simp, by go_simp, by go_simp, by go_simp⟩, by go_simp, by go_simp, by go_simp, by go_simp, by go_simp⟩, h4.setCell (p := ⟨g9, 3, none⟩) (by show W.heap.size ≤ g9; omega) _, h5⟩
end
set_option maxRecDepth 100000 in
set_option maxHeartbeats 4000000 in
theorem qdec_any (L : List Int) (v : Value) (w : World) (h : Rd L v w) :
    Calls Try.prog 23 #[v] w fun e w' => ∃ u, e = .returned (.tuple #[u, .int .i64 (errC L)]) ∧ OwnQ w.heap.size (decC L) u w' ∧ Below w.heap.size w w' := by
  obtain ⟨a, len, cap, rfl⟩ : ∃ a len cap, v = .slice a len cap := by
    obtain ⟨_, a, cap, hv, _⟩ := h
    exact ⟨a, _, cap, hv⟩
  have C0 := Lib.hid ((FqS.new 0 0 0 (.slice none 0 0) false 25 w).below (b1 (.cells #[.slice a len cap, .bool false] 71)) (by simp))
  have D0 : Hid (DS w (w.heap.size + 1) L false ((w.alloc (.cells #[.int .i64 0, .int .i64 0, .int .i64 0, .slice none 0 0, .bool false] 25)).alloc (.cells #[.slice a len cap, .bool false] 71))) :=
    Lib.hid ⟨.slice a len cap, ⟨⟨by go_simp, by go_simp⟩, by go_simp, by go_simp⟩, h⟩
  have B0 := Lib.hid (b2 (a := w) (.cells #[.int .i64 0, .int .i64 0, .int .i64 0, .slice none 0 0, .bool false] 25) (.cells #[.slice a len cap, .bool false] 71))
  have HBD := Lib.hid (headC_bd h.1)
  have HBY := Lib.hid (headC_byt h.1)
  have HNO := Lib.hid (decC_no (L := L))
  have HYE := Lib.hid (decC_yes (L := L))
  have HOK := Lib.hid (show OkC L ↔ qX L ≤ 1 ∧ qN L ≤ 32 ∧ flE (qF L) (qR L) (qN L).toNat = false ∧ rsE (qR L) (qN L).toNat = [] ∧ valQ (qS L) (qT L) (qK L) (esE (qR L) (qN L).toNat) = 0 from Iff.rfl)
  clear h
  generalize decC L = RES at *
  generalize errC L = REE at *
  generalize OkC L = OK at *
  go_enter Try.func23, Try.ntmps23
  go_wp2_with fail
  go_at_call 46
  refine (dnum_any D0.out B0.out).mono ?_
  rintro e w2 ⟨rfl, hd2, ho2⟩
  have D2 := Lib.hid hd2
  have B2 := Lib.hid (B0.out.trans (ho2.1.mono (Nat.le_succ _)))
  have C2 := Lib.hid (C0.out.keep (ho2.2 _ (by omega)))
  clear hd2 ho2 D0 B0 C0
  go_wp2_with fail
  go_at_call 46
  refine (dnum_any D2.out B2.out).mono ?_
  rintro e w3 ⟨rfl, hd3, ho3⟩
  have D3 := Lib.hid hd3
  have B3 := Lib.hid (B2.out.trans (ho3.1.mono (Nat.le_succ _)))
  have C3 := Lib.hid (C2.out.keep (ho3.2 _ (by omega)))
  clear hd3 ho3 D2 B2 C2
  go_wp2_with fail
  go_at_call 46
  refine (dnum_any D3.out B3.out).mono ?_
  rintro e w4 ⟨rfl, hd4, ho4⟩
  have D4 := Lib.hid hd4
  have B4 := Lib.hid (B3.out.trans (ho4.1.mono (Nat.le_succ _)))
  have C4 := Lib.hid (C3.out.keep (ho4.2 _ (by omega)))
  clear hd4 ho4 D3 B3 C3
  go_wp2_with fail
  go_at_call 46
  refine (dnum_any D4.out B4.out).mono ?_
  rintro e w6 ⟨rfl, hd6, ho6⟩
  have D6 := Lib.hid hd6
  have B6 := Lib.hid (B4.out.trans (ho6.1.mono (Nat.le_succ _)))
  have C6 := Lib.hid (C4.out.keep (ho6.2 _ (by omega)))
  clear hd6 ho6 D4 B4 C4
  go_wp2_with fail
  go_at_call 46
  refine (dnum_any D6.out B6.out).mono ?_
  rintro e w5 ⟨rfl, hd5, ho5⟩
  have D5 := Lib.hid (show DS w (w.heap.size + 1) (qR L) (qF L) w5 from hd5)
  have B5 := Lib.hid (B6.out.trans (ho5.1.mono (Nat.le_succ _)))
  have C5 := Lib.hid (C6.out.keep (ho5.2 _ (by omega)))
  clear hd5 ho5 D6 B6 C6
  rw [show (decU L).1 = qS L from rfl, show (decU (restU L)).1 = qT L from rfl, show (decU (restU (restU L))).1 = qK L from rfl, show (decU (restU (restU (restU L)))).1 = qX L from rfl, show (decU (restU (restU (restU (restU L))))).1 = qN L from rfl]
  generalize qS L = S at *
  generalize qT L = T at *
  generalize qK L = K at *
  generalize qX L = x at *
  generalize qN L = n at *
  generalize qF L = F at *
  generalize qR L = R at *
  obtain ⟨⟨s0, s1⟩, ⟨t0, t1⟩, ⟨u0, u1⟩, ⟨x0, x1⟩, n0, n1⟩ := HBD.out
  by_cases hx : 1 < x ∨ 32 < n
  · obtain ⟨e1, e2⟩ := HNO.out (fun h => by have := HOK.out.1 h; omega)
    subst e1 e2
    obtain ⟨⟨p0, p1, p2, p3, p4⟩, f0, f1, f2, f3, f4⟩ := C5.out
    clear HBD HBY HNO HYE HOK D5 C5
    rcases hx with hx | hx
    all_goals
      go_wp2
    all_goals
      refine bodyPost_ret (v := .tuple #[.agg #[.int .i64 0, .int .i64 0, .int .i64 0, .slice none 0 0, .bool false], .int .i64 2]) (by simp [results, Try.results23, go_sem, *]) rfl ⟨_, rfl, ⟨none, 0, 0, rfl, OwnE.empty _ _⟩, ?_⟩
      exact bsetB (bsetB (bsetB (bsetB (bsetB B5.out _ _ _ (Nat.le_refl _)) _ _ _ (Nat.le_refl _)) _ _ _ (Nat.le_refl _)) _ _ _ (Nat.le_refl _)) _ _ _ (Nat.le_refl _)
  · obtain ⟨N, rfl⟩ : ∃ N : Nat, n = (N : Int) := ⟨n.toNat, by omega⟩
    rw [Int.toNat_natCast] at HOK HYE
    have hx1 : x ≤ 1 := by omega
    have hN : N ≤ 32 := by omega
    have HNB := Lib.hid (And.intro hx1 hN)
    have HSB := Lib.hid (⟨⟨s0, s1⟩, t0, t1⟩ : (0 ≤ S ∧ S ≤ 4611686018427387904) ∧ 0 ≤ T ∧ T ≤ 4611686018427387904)
    have HI : Hid (∃ v, DL w w5.heap.size S T K v (x == 1) (rsE R 0) (flE F R 0) (w5.alloc (.cells #[.int .i64 S, .int .i64 T, .int .i64 K, .slice none 0 0, .bool (x == 1)] 25)) ∧ OwnE (w5.heap.size + 1) (esE R 0) v (w5.alloc (.cells #[.int .i64 S, .int .i64 T, .int .i64 K, .slice none 0 0, .bool (x == 1)] 25))) :=
      Lib.hid ⟨.slice none 0 0, ⟨C5.out.below (b1 _) C5.out.lt, D5.out.keep (Below.heap_alloc _ _ _ D5.out.size), FqS.new _ _ _ _ _ _ _, bal B5.out _, D5.out.size⟩, OwnE.empty _ _⟩
    have hx2 : ¬ 1 < x := by omega
    have hN2 : ¬ (32 : Int) < (N : Int) := by omega
    clear hx hx1 hN HBD B5 C5 D5 s0 s1 t0 t1 u0 u1 x0 x1 n0 n1
    go_wp2
    clear hx2 hN2
    go_loopw [32] (fun i wr => ∃ k : Nat, k ≤ N ∧ i = .int .i64 (k : Int) ∧ Hid (∃ v, DL w w5.heap.size S T K v (x == 1) (rsE R k) (flE F R k) wr ∧ OwnE (w5.heap.size + 1) (esE R k) v wr)) (fun i _ => N - (intOf i).toNat)
    case atStart => exact ⟨0, by omega, rfl, HI⟩
    case round =>
      clear HI
      obtain ⟨k, hk, rfl, HI⟩ := hrel
      obtain ⟨v, hdl, hov⟩ := HI.out
      obtain ⟨a1, cap1, rfl⟩ := hov.rd.shape
      rw [esE_len] at hdl hov
      have DL0 := Lib.hid hdl
      have OV0 := Lib.hid hov
      clear HI hdl hov
      by_cases hlt : k < N
      · have hlt2 : (k : Int) < (N : Int) := by omega
        have HLN : Hid ((esE R k).length + [eE (rsE R k)].length ≤ 1099511627776) := Lib.hid (by have := HNB.out; rw [esE_len, List.length_singleton]; omega)
        have HEO := Lib.hid (eE_ok (rsE_byt HBY.out k))
        have DL1 := Lib.hid DL0.out.drew
        have OV1 := Lib.hid (show OwnE (w5.heap.size + 1) (esE R k) (.slice a1 k cap1) wr.drew from OV0.out)
        have HW : Hid (w.heap.size ≤ w.heap.size + 1) := Lib.hid (Nat.le_succ _)
        have HRM := Lib.hid DL0.out.room
        have hc : wr.drew.cell? ⟨w5.heap.size, 3, none⟩ = some (.slice a1 k cap1) := DL1.out.top.1.2.2.2.1
        clear DL0 OV0
        go_wp2
        go_region_law (first
          | (go_simp; go_at_call 47; (with_reducible refine (dent_any DL1.out.ds DL1.out.bel HW.out).mono ?_); rintro e w6 ⟨rfl, hd6, ho6⟩; have DL6 := Lib.hid (DL1.out.turn ho6 hd6); have OV6 := Lib.hid (OV1.out.turn ho6 (by have := HRM.out; omega)); have t6 := DL6.out.top.1.2.2.2.1; have t7 := (DL6.out.go (b1 (.cells #[.string (eE (rsE R k)).k, .int .i64 (eE (rsE R k)).c, .int .i64 (eE (rsE R k)).e] 49))).top.1.2.2.2.1; clear hd6 ho6)
          | (refine step_appE rfl _ _ _ rfl (w5.heap.size + 1) (esE R k) [eE (rsE R k)] _ _ rfl rfl (OV6.out.alloc _) (OwnE.one HEO.out w6).rd.src (by have := DL6.out.room; simp; omega) HLN.out ?_; (intro v9 w9 ho9 hb9; obtain ⟨a9, cap9, rfl⟩ := ho9.rd.shape; have OV9 := Lib.hid ho9; have DL9 := Lib.hid ((DL6.out.go (b1 _)).keep hb9); obtain ⟨⟨-, -, -, q2, -⟩, -, -, -, y2, -⟩ := DL9.out.top; clear ho9 hb9)))
        all_goals
          have HD : Hid (∃ v, DL w w5.heap.size S T K v (x == 1) (rsE R (k + 1)) (flE F R (k + 1)) (w9.setCell ⟨w5.heap.size, 3, none⟩ (.slice a9 ((esE R k).length + 1) cap9)) ∧ OwnE (w5.heap.size + 1) (esE R (k + 1)) v (w9.setCell ⟨w5.heap.size, 3, none⟩ (.slice a9 ((esE R k).length + 1) cap9))) :=
            Lib.hid ⟨_, DL9.out.put a9 ((esE R k).length + 1) cap9, by have h := OV9.out.keep (Nat.lt_succ_self w5.heap.size) 3 (.slice a9 ((esE R k).length + 1) cap9); rw [List.length_append, List.length_singleton] at h; exact h⟩
          clear OV9 DL9 q2 y2
          go_wp2
          exact ⟨⟨k + 1, by omega, by go_num, HD⟩, by simp [intOf]; omega⟩
      · obtain rfl : k = N := by omega
        have hnlt : ¬ (k : Int) < (k : Int) := by omega
        obtain ⟨v8, ⟨⟨z0, z1⟩, -⟩, hrd8⟩ := DL0.out.ds
        obtain ⟨-, a8, cp8, rfl, hl8, hm8, -⟩ := hrd8
        obtain ⟨⟨p0, p1, p2, p3, p4⟩, f0, f1, f2, f3, f4⟩ := DL0.out.res
        obtain ⟨⟨q0, q1, q2, q3, q4⟩, y0, y1, y2, y3, y4⟩ := DL0.out.top
        have HB := Lib.hid DL0.out.bel
        have HRM := Lib.hid DL0.out.room
        by_cases hF : flE F R k = true
        · obtain ⟨e1, e2⟩ := HNO.out (fun h => by have := (HOK.out.1 h).2.2.1; rw [hF] at this; cases this)
          subst e1 e2
          rw [hF] at z1
          clear HNO HYE HOK HBY DL0 OV0 hF HSB
          go_wp2
          refine bodyPost_ret (v := .tuple #[.agg #[.int .i64 0, .int .i64 0, .int .i64 0, .slice none 0 0, .bool false], .int .i64 2]) (by simp [results, Try.results23, go_sem, *]) rfl ⟨_, rfl, ⟨none, 0, 0, rfl, OwnE.empty _ _⟩, ?_⟩
          exact bsetB (bsetB (bsetB (bsetB (bsetB HB.out _ _ _ (Nat.le_refl _)) _ _ _ (Nat.le_refl _)) _ _ _ (Nat.le_refl _)) _ _ _ (Nat.le_refl _)) _ _ _ (Nat.le_refl _)
        · have hF2 : flE F R k = false := by simpa using hF
          rw [hF2] at z1
          by_cases hR : rsE R k = []
          · have hL8 : (rsE R k).length = 0 := by rw [hR]; rfl
            rw [hL8] at z0
            have HV := Lib.hid (pvalQ_any S T K (esE R k) (x == 1) a1 k cap1 wr OV0.out.rd (by have := HNB.out; rw [esE_len]; omega))
            by_cases hE : valQ S T K (esE R k) = 0
            · obtain ⟨e1, e2⟩ := HYE.out (HOK.out.2 ⟨HNB.out.1, by have := HNB.out.2; omega, hF2, hR, hE⟩)
              have HRS := Lib.hid e1
              subst e2
              rw [hE] at HV
              clear HNO HYE HOK HBY hF hF2 hR hE hL8 hl8 hm8 e1
              go_wp2_with (go_at_call 16; (with_reducible refine HV.out.mono ?_); rintro e w10 ⟨rfl, hb10⟩; clear HB p0 p1 p2 p3 p4 f0 f1 f2 f3 f4 q0 q1 q2 q3 q4 y0 y1 y2 y3 y4; have DL10 := Lib.hid (DL0.out.go hb10); have OV10 := Lib.hid (OV0.out.below hb10); have HB := Lib.hid DL10.out.bel; obtain ⟨⟨p0, p1, p2, p3, p4⟩, f0, f1, f2, f3, f4⟩ := DL10.out.res; obtain ⟨⟨q0, q1, q2, q3, q4⟩, y0, y1, y2, y3, y4⟩ := DL10.out.top; clear hb10)
              refine bodyPost_ret (v := .tuple #[.agg #[.int .i64 S, .int .i64 T, .int .i64 K, .slice a1 k cap1, .bool (x == 1)], .int .i64 0]) (by simp [results, Try.results23, go_sem, *]) rfl ⟨_, rfl, ⟨a1, k, cap1, by rw [HRS.out], ?_⟩, ?_⟩
              · rw [HRS.out]
                have hlt9 : w.heap.size < w5.heap.size + 1 := by have := HRM.out; omega
                exact ((((((OV10.out.keep hlt9 0 _).keep hlt9 1 _).keep hlt9 2 _).keep hlt9 3 _)).keep hlt9 4 _).mono (Nat.le_of_lt hlt9)
              · exact bsetB (bsetB (bsetB (bsetB (bsetB HB.out _ _ _ (Nat.le_refl _)) _ _ _ (Nat.le_refl _)) _ _ _ (Nat.le_refl _)) _ _ _ (Nat.le_refl _)) _ _ _ (Nat.le_refl _)
            · obtain ⟨e1, e2⟩ := HNO.out (fun h => hE (HOK.out.1 h).2.2.2.2)
              subst e1 e2
              have hE2 : (valQ S T K (esE R k) != 0) = true := by simpa using hE
              generalize valQ S T K (esE R k) = E at *
              clear HNO HYE HOK HBY hF hF2 hR hE hL8 hl8 hm8 OV0
              go_wp2_with (go_at_call 16; (with_reducible refine HV.out.mono ?_); rintro e w10 ⟨rfl, hb10⟩; clear HB p0 p1 p2 p3 p4 f0 f1 f2 f3 f4 q0 q1 q2 q3 q4 y0 y1 y2 y3 y4; have DL10 := Lib.hid (DL0.out.go hb10); have HB := Lib.hid DL10.out.bel; obtain ⟨⟨p0, p1, p2, p3, p4⟩, f0, f1, f2, f3, f4⟩ := DL10.out.res; clear hb10)
              refine bodyPost_ret (v := .tuple #[.agg #[.int .i64 0, .int .i64 0, .int .i64 0, .slice none 0 0, .bool false], .int .i64 2]) (by simp [results, Try.results23, go_sem, *]) rfl ⟨_, rfl, ⟨none, 0, 0, rfl, OwnE.empty _ _⟩, ?_⟩
              exact bsetB (bsetB (bsetB (bsetB (bsetB HB.out _ _ _ (Nat.le_refl _)) _ _ _ (Nat.le_refl _)) _ _ _ (Nat.le_refl _)) _ _ _ (Nat.le_refl _)) _ _ _ (Nat.le_refl _)
          · obtain ⟨e1, e2⟩ := HNO.out (fun h => hR (HOK.out.1 h).2.2.2.1)
            subst e1 e2
            have hL8 : (0 : Int) < ((rsE R k).length : Int) := by
              have := List.length_pos_iff.2 hR
              omega
            generalize (rsE R k).length = l8 at *
            clear HNO HYE HOK HBY hF hF2 hR OV0 DL0
            go_wp2
            refine bodyPost_ret (v := .tuple #[.agg #[.int .i64 0, .int .i64 0, .int .i64 0, .slice none 0 0, .bool false], .int .i64 2]) (by simp [results, Try.results23, go_sem, *]) rfl ⟨_, rfl, ⟨none, 0, 0, rfl, OwnE.empty _ _⟩, ?_⟩
            exact bsetB (bsetB (bsetB (bsetB (bsetB HB.out _ _ _ (Nat.le_refl _)) _ _ _ (Nat.le_refl _)) _ _ _ (Nat.le_refl _)) _ _ _ (Nat.le_refl _)) _ _ _ (Nat.le_refl _)
/-- What is known while the entries are read. -/
def RTl (L : List Int) (s t q x n : Int) (C : List Ent) (b : Bool) (R : List Int) (k : Nat) : Prop :=
  (b = true → ¬ OkC L) ∧ (b = false → s = qS L ∧ t = qT L ∧ q = qK L ∧ x = qX L ∧ n = qN L ∧ qX L ≤ 1 ∧ qN L ≤ 32 ∧ C = esE (qR L) k ∧ R = rsE (qR L) k ∧ flE (qF L) (qR L) k = false)
theorem RTl.start {L R1 R2 R3 R4 R5 : List Int} {b1 b2 b3 b4 b5 : Bool} {s t q x n : Int} (hy : Byt L) (h1 : NumP L 32 false s b1 R1) (h2 : NumP R1 1099511627776 b1 t b2 R2) (h3 : NumP R2 1099511627776 b2 q b3 R3) (h4 : NumP R3 1 b3 x b4 R4) (h5 : NumP R4 32 b4 n b5 R5) : RTl L s t q x n [] b5 R5 0 := by
  rcases headC hy h1 h2 h3 h4 h5 with ⟨rfl, a1, a2, aq, a3, a4, a5, a6, _, _, _, a9, a10⟩ | ⟨rfl, _, h⟩
  · exact ⟨fun h => (by cases h), fun _ => ⟨a1, a2, aq, a3, a4, a9, a10, rfl, a5, a6⟩⟩
  · exact ⟨fun _ => h, fun h => (by cases h)⟩
theorem RTl.step {L R R' : List Int} {s t q x n : Int} {C : List Ent} {X : Ent} {b b' : Bool} {k : Nat} (h : RTl L s t q x n C b R k) (hb : b = false) (hk : (k : Int) < n) (hE : EntP R b X b' R') : RTl L s t q x n (C ++ [X]) b' R' (k + 1) := by
  obtain ⟨a1, a2, aq, a3, a4, a5, a6, a7, a8, a9⟩ := h.2 hb
  rcases hE.2 with ⟨_, rfl, rfl, rfl, hf⟩ | ⟨rfl, hw⟩
  · refine ⟨fun h => (by cases h), fun _ => ⟨a1, a2, aq, a3, a4, a5, a6, by rw [a7, a8]; rfl, by rw [a8]; rfl, ?_⟩⟩
    show (flE (qF L) (qR L) k || fE (rsE (qR L) k)) = false
    rw [a9, ← a8, hf]
    rfl
  · refine ⟨fun _ => ?_, fun h => (by cases h)⟩
    have := hw hb
    rw [a8] at this
    exact okC_ent (by omega) this
theorem RTl.fin {L R : List Int} {s t q x n : Int} {C : List Ent} {b : Bool} {k : Nat} (h : RTl L s t q x n C b R k) (hk : b = true ∨ ¬ (k : Int) < n) (hk2 : (k : Int) ≤ n) :
    ((b = true ∨ R ≠ [] ∨ valQ s t q C ≠ 0) → ¬ OkC L) ∧ (b = false → R = [] → valQ s t q C = 0 → OkC L ∧ decC L = ⟨s, t, q, C, x == 1⟩) := by
  by_cases hb : b = true
  · exact ⟨fun _ => h.1 hb, fun h' => (by rw [hb] at h'; cases h')⟩
  · have hb : b = false := by simpa using hb
    have hkn := hk.resolve_left (by rw [hb]; simp)
    obtain ⟨a1, a2, aq, a3, a4, a5, a6, a7, a8, a9⟩ := h.2 hb
    have e : (qN L).toNat = k := by omega
    refine ⟨fun hw hok => ?_, fun _ h1 h2 => ?_⟩
    · obtain ⟨o1, o2, o3, o4, o5⟩ := hok
      rw [e] at o3 o4 o5
      rcases hw with h | h | h
      · rw [hb] at h; cases h
      · exact h (a8.trans o4)
      · exact h (by rw [a1, a2, aq, a7]; exact o5)
    · have hok : OkC L := ⟨a5, a6, by rw [e]; exact a9, by rw [e, ← a8]; exact h1, by rw [e, ← a7, ← a1, ← a2, ← aq]; exact h2⟩
      exact ⟨hok, by rw [(decC_yes hok).1, e, ← a7, ← a1, ← a2, ← aq, ← a3]⟩
/-- The state of DecodeFrequent: the result's cells, the reader, the summary under way. -/
def RDl (W : World) (g9 : Nat) (L : List Int) (S T K : Int) (v : Value) (s : Bool) (b : Bool) (R : List Int) (w : World) : Prop :=
  FqS W.heap.size 0 0 0 (.slice none 0 0) false w ∧ RS W (W.heap.size + 1) L R b w ∧ FqS g9 S T K v s w ∧ Below W.heap.size W w ∧ W.heap.size + 2 ≤ g9
section
variable {W w w' : World} {g9 : Nat} {L : List Int} {S T K : Int} {v : Value} {s b b' : Bool} {R R' : List Int}
theorem RDl.top (h : RDl W g9 L S T K v s b R w) : FqS g9 S T K v s w := h.2.2.1
theorem RDl.res (h : RDl W g9 L S T K v s b R w) : FqS W.heap.size 0 0 0 (.slice none 0 0) false w := h.1
theorem RDl.rs (h : RDl W g9 L S T K v s b R w) : RS W (W.heap.size + 1) L R b w := h.2.1
theorem RDl.bel (h : RDl W g9 L S T K v s b R w) : Below W.heap.size W w := h.2.2.2.1
theorem RDl.room (h : RDl W g9 L S T K v s b R w) : W.heap.size + 2 ≤ g9 ∧ g9 < w.heap.size := ⟨h.2.2.2.2, h.2.2.1.lt⟩
theorem RDl.keep (h : RDl W g9 L S T K v s b R w) (hb : Below (g9 + 1) w w') : RDl W g9 L S T K v s b R w' := by
  obtain ⟨h1, h2, h3, h4, h5⟩ := h
  exact ⟨h1.keep (hb.block _ (by omega)), h2.keep (hb.block _ (by omega)), h3.keep (hb.block _ (by omega)), h4.trans (hb.mono (by omega)), h5⟩
theorem RDl.go (h : RDl W g9 L S T K v s b R w) (hb : Below w.heap.size w w') : RDl W g9 L S T K v s b R w' := h.keep (hb.mono h.room.2)
theorem RDl.drew (h : RDl W g9 L S T K v s b R w) : RDl W g9 L S T K v s b R w.drew := h.go (Below.refl _ _).drew
theorem RDl.turn (h : RDl W g9 L S T K v s b R w) (ho : One (W.heap.size + 1) w w') (hd : RS W (W.heap.size + 1) L R' b' w') : RDl W g9 L S T K v s b' R' w' := by
  obtain ⟨h1, h2, h3, h4, h5⟩ := h
  exact ⟨h1.keep (ho.2.2 _ h1.lt (by omega)), hd, h3.keep (ho.2.2 _ h3.lt (by omega)), h4.trans (ho.1.mono (by omega)), h5⟩
theorem RDl.put (h : RDl W g9 L S T K v s b R w) (a : Option Addr) (n c : Nat) : RDl W g9 L S T K (.slice a n c) s b R (w.setCell ⟨g9, 3, none⟩ (.slice a n c)) := by
  obtain ⟨h1, h2, ⟨⟨p0, p1, p2, p3, p4⟩, f0, f1, f2, f3, f4⟩, h4, h5⟩ := h
  exact ⟨h1.keep (Below.heap_setCell _ ⟨g9, 3, none⟩ _ _ (by show W.heap.size ≠ g9; omega)), h2.keep (Below.heap_setCell _ ⟨g9, 3, none⟩ _ _ (by show W.heap.size + 1 ≠ g9; omega)), ⟨⟨by go_simp, by go_simp, by go_simp, by go_simp, by go_simp⟩, by go_simp, by go_simp, by go_simp, by go_simp, by go_simp⟩, h4.setCell (p := ⟨g9, 3, none⟩) (by show W.heap.size ≤ g9; omega) _, h5⟩
end
set_option maxRecDepth 100000 in
set_option maxHeartbeats 4000000 in
theorem rqdec_any (L : List Int) (v : Value) (w : World) (h : Rd L v w) :
    Calls Try.prog 24 #[v] w fun e w' => ∃ u, e = .returned (.tuple #[u, .int .i64 (errC L)]) ∧ OwnQ w.heap.size (decC L) u w' ∧ Below w.heap.size w w' := by
  obtain ⟨a, len, cap, rfl⟩ : ∃ a len cap, v = .slice a len cap := by
    obtain ⟨_, a, cap, hv, _⟩ := h
    exact ⟨a, _, cap, hv⟩
  have C0 := Lib.hid ((FqS.new 0 0 0 (.slice none 0 0) false 25 w).below (b1 (.cells #[.slice a len cap, .int .i64 0, .bool false] 76)) (by simp))
  have D0 : Hid (RS w (w.heap.size + 1) L L false ((w.alloc (.cells #[.int .i64 0, .int .i64 0, .int .i64 0, .slice none 0 0, .bool false] 25)).alloc (.cells #[.slice a len cap, .int .i64 0, .bool false] 76))) :=
    Lib.hid ⟨.slice a len cap, 0, h, Nat.zero_le _, rfl, ⟨by go_simp, by go_simp, by go_simp⟩, by go_simp, by go_simp, by go_simp⟩
  have B0 := Lib.hid (b2 (a := w) (.cells #[.int .i64 0, .int .i64 0, .int .i64 0, .slice none 0 0, .bool false] 25) (.cells #[.slice a len cap, .int .i64 0, .bool false] 76))
  have HBY := Lib.hid h.1
  have HNO := Lib.hid (decC_no (L := L))
  have HYE := Lib.hid (fun h => (decC_yes (L := L) h).2)
  clear h
  obtain ⟨RES, hRES⟩ : ∃ r, decC L = r := ⟨_, rfl⟩
  obtain ⟨REE, hREE⟩ : ∃ r, errC L = r := ⟨_, rfl⟩
  rw [hRES, hREE] at HNO
  rw [hREE] at HYE
  rw [hRES, hREE]
  have HRES := Lib.hid hRES
  clear hRES hREE
  go_enter Try.func24, Try.ntmps24
  go_wp2_with fail
  go_at_call 48
  refine (rnum_any 32 (by decide) (by decide) D0.out B0.out).mono ?_
  rintro e w2 ⟨n1, f1, R1, rfl, hp1, hd2, ho2⟩
  have D2 := Lib.hid hd2
  have B2 := Lib.hid (B0.out.trans (ho2.1.mono (Nat.le_succ _)))
  have C2 := Lib.hid (C0.out.keep (ho2.2 _ (by omega)))
  have hbd1 := hp1.bd D0.out.byt (by decide)
  clear hd2 ho2 D0 B0 C0
  go_wp2_with fail
  go_at_call 48
  refine (rnum_any 1099511627776 (by decide) (by decide) D2.out B2.out).mono ?_
  rintro e w3 ⟨n2, f2, R2, rfl, hp2, hd3, ho3⟩
  have D3 := Lib.hid hd3
  have B3 := Lib.hid (B2.out.trans (ho3.1.mono (Nat.le_succ _)))
  have C3 := Lib.hid (C2.out.keep (ho3.2 _ (by omega)))
  have hbd2 := hp2.bd D2.out.byt (by decide)
  clear hd3 ho3 D2 B2 C2
  go_wp2_with fail
  go_at_call 48
  refine (rnum_any 1099511627776 (by decide) (by decide) D3.out B3.out).mono ?_
  rintro e w6 ⟨n3, f6, R6, rfl, hp6, hd6, ho6⟩
  have D6 := Lib.hid hd6
  have B6 := Lib.hid (B3.out.trans (ho6.1.mono (Nat.le_succ _)))
  have C6 := Lib.hid (C3.out.keep (ho6.2 _ (by omega)))
  have hbd6 := hp6.bd D3.out.byt (by decide)
  clear hd6 ho6 D3 B3 C3
  go_wp2_with fail
  go_at_call 48
  refine (rnum_any 1 (by decide) (by decide) D6.out B6.out).mono ?_
  rintro e w4 ⟨x, f3, R3, rfl, hp3, hd4, ho4⟩
  have D4 := Lib.hid hd4
  have B4 := Lib.hid (B6.out.trans (ho4.1.mono (Nat.le_succ _)))
  have C4 := Lib.hid (C6.out.keep (ho4.2 _ (by omega)))
  have hbd3 := hp3.bd D6.out.byt (by decide)
  have HP := Lib.hid (And.intro hp1 (And.intro hp2 (And.intro hp6 hp3)))
  have H4 : Hid (RDl w w4.heap.size L n1 n2 n3 (.slice none 0 0) (x == 1) f3 R3 (w4.alloc (.cells #[.int .i64 n1, .int .i64 n2, .int .i64 n3, .slice none 0 0, .bool (x == 1)] 25))) :=
    Lib.hid ⟨C4.out.below (b1 _) C4.out.lt, D4.out.keep (Below.heap_alloc _ _ _ D4.out.size), FqS.new _ _ _ _ _ _ _, bal B4.out _, D4.out.size⟩
  clear hd4 ho4 D6 B6 C6 hp1 hp2 hp6 hp3 D4 B4 C4
  go_wp2_with fail
  go_at_call 48
  refine (rnum_any 32 (by decide) (by decide) H4.out.rs H4.out.bel).mono ?_
  rintro e w5 ⟨n, b, R, rfl, hp5, hd5, ho5⟩
  have HI : Hid (RDl w w4.heap.size L n1 n2 n3 (.slice none 0 0) (x == 1) b R w5 ∧ OwnE (w4.heap.size + 1) [] (.slice none 0 0) w5) := Lib.hid ⟨H4.out.turn ho5.turn hd5, OwnE.empty _ _⟩
  have HK := Lib.hid (RTl.start HBY.out HP.out.1 HP.out.2.1 HP.out.2.2.1 HP.out.2.2.2 hp5)
  have hbd4 := hp5.bd H4.out.rs.byt (by decide)
  clear hp5 hd5 ho5 H4 HP
  go_wp2
  go_loopw [7] (fun i wr => ∃ (k : Nat) (C : List Ent) (b : Bool) (R : List Int) (a : Option Addr) (c : Nat), (k : Int) ≤ n ∧ Hid (C.length = k) ∧ i = .int .i64 (k : Int) ∧ Hid (RDl w w4.heap.size L n1 n2 n3 (.slice a k c) (x == 1) b R wr ∧ OwnE (w4.heap.size + 1) C (.slice a k c) wr) ∧ Hid (RTl L n1 n2 n3 x n C b R k)) (fun i _ => 33 - (intOf i).toNat)
  case atStart => exact ⟨0, [], b, R, none, 0, by omega, Lib.hid rfl, rfl, HI, HK⟩
  case round =>
    clear HI HK b R
    obtain ⟨k, C, b, R, a5, c5, hk, hC, rfl, HI, HK⟩ := hrel
    have hC2 := hC.out
    subst hC2
    clear hC
    have HRM := Lib.hid HI.out.1.room
    obtain ⟨⟨q0, q1, q2, q3, q4⟩, y0, y1, y2, y3, y4⟩ := HI.out.1.top
    obtain ⟨vr, kr, _, _, _, ⟨⟨r0, r1, r2⟩, _⟩⟩ := HI.out.1.rs
    by_cases hgo : (C.length : Int) < n ∧ b = false
    · obtain ⟨hlt, rfl⟩ := hgo
      have DL1 := Lib.hid HI.out.1.drew
      have OV1 := Lib.hid (show OwnE (w4.heap.size + 1) C (.slice a5 C.length c5) wr.drew from HI.out.2)
      have HLN : Hid (C.length + 1 ≤ 1099511627776) := Lib.hid (by omega)
      clear HI
      go_wp2
      clear r0 r1 r2
      go_region_law (first
        | (go_simp; go_at_call 49; (with_reducible refine (rtxt_any DL1.out.rs DL1.out.bel).mono ?_); rintro e w6 ⟨x6, b6, R6, rfl, hp6, hd6, ho6⟩; have HP6 := Lib.hid hp6; have DL6 := Lib.hid (DL1.out.turn ho6.turn hd6); have OV6 := Lib.hid (OV1.out.turn ho6.turn (by have := HRM.out; omega)); have t6 := DL6.out.top.1.2.2.2.1; clear hp6 hd6 ho6)
        | (go_simp; go_at_call 48; (with_reducible refine (rnum_any 1099511627776 (by decide) (by decide) DL6.out.rs DL6.out.bel).mono ?_); rintro e w8 ⟨c7, b8, R8, rfl, hp8, hd8, ho8⟩; have HEP := Lib.hid (EntP.of DL1.out.rs.byt HP6.out hp8); have DL8 := Lib.hid (DL6.out.turn ho8.turn hd8); have OV8 := Lib.hid (OV6.out.turn ho8.turn (by have := HRM.out; omega)); have t8 := DL8.out.top.1.2.2.2.1; have t9 := (DL8.out.go (b1 (.cells #[.string x6, .int .i64 c7, .int .i64 0] 49))).top.1.2.2.2.1; clear hp8 hd8 ho8)
        | (refine step_appE rfl _ _ _ rfl (w4.heap.size + 1) C [(⟨x6, c7, 0⟩ : Ent)] _ _ rfl rfl (OV8.out.alloc _) (OwnE.one HEP.out.1 w8).rd.src (by have := DL8.out.room; simp; omega) HLN.out ?_; (intro v9 w9 ho9 hb9; obtain ⟨a9, cap9, rfl⟩ := ho9.rd.shape; have OV9 := Lib.hid ho9; have DL9 := Lib.hid ((DL8.out.go (b1 _)).keep hb9); obtain ⟨⟨-, -, -, z2, -⟩, -, -, -, x2, -⟩ := DL9.out.top; clear ho9 hb9)))
      all_goals
        have HD : Hid (RDl w w4.heap.size L n1 n2 n3 (.slice a9 (C.length + 1) cap9) (x == 1) b8 R8 (w9.setCell ⟨w4.heap.size, 3, none⟩ (.slice a9 (C.length + 1) cap9)) ∧ OwnE (w4.heap.size + 1) (C ++ [(⟨x6, c7, 0⟩ : Ent)]) (.slice a9 (C.length + 1) cap9) (w9.setCell ⟨w4.heap.size, 3, none⟩ (.slice a9 (C.length + 1) cap9))) :=
          Lib.hid ⟨DL9.out.put a9 (C.length + 1) cap9, by have h := OV9.out.keep (Nat.lt_succ_self w4.heap.size) 3 (.slice a9 (C.length + 1) cap9); rw [List.length_append, List.length_singleton] at h; exact h⟩
        have HK9 := Lib.hid (RTl.step HK.out rfl hlt HEP.out)
        have hm : 33 - (C.length + 1) < 33 - C.length := by omega
        clear OV9 DL9 z2 x2 HK
        go_wp2
        exact ⟨⟨C.length + 1, C ++ [(⟨x6, c7, 0⟩ : Ent)], b8, R8, a9, cap9, by omega, Lib.hid (by rw [List.length_append, List.length_singleton]), by go_num, HD, HK9⟩, by simp [intOf]; omega⟩
    · have HEX := Lib.hid (show b = true ∨ ¬ (C.length : Int) < n from by
        by_cases hbt : b = true
        · exact .inl hbt
        · exact .inr (fun h => hgo ⟨h, by simpa using hbt⟩))
      have hgo2 : ¬ (C.length : Int) < n ∨ (C.length : Int) < n ∧ b = true := by
        by_cases hlt : (C.length : Int) < n
        · exact .inr ⟨hlt, HEX.out.resolve_right (fun h => h hlt)⟩
        · exact .inl hlt
      have HF := Lib.hid (RTl.fin HK.out HEX.out hk)
      have hdn : ((!b && R.isEmpty) = true ∧ b = false ∧ R = []) ∨ ((!b && R.isEmpty) = false ∧ (b = true ∨ R ≠ [])) := by
        cases b
        · cases R with
          | nil => exact .inl ⟨rfl, rfl, rfl⟩
          | cons a l => exact .inr ⟨rfl, .inr (by simp)⟩
        · exact .inr ⟨rfl, .inl rfl⟩
      have HDN := Lib.hid hdn
      have HDO := Lib.hid (rdone_any HI.out.1.rs HI.out.1.bel)
      clear hgo hdn HK HEX
      rcases hgo2 with hlt | ⟨hlt, rfl⟩
      all_goals
        go_wp2_with fail
        go_at_call 50
        (with_reducible refine HDO.out.mono ?_)
        rintro e w9 ⟨rfl, m, hm9⟩
        have I9 : Hid (RDl w w4.heap.size L n1 n2 n3 (.slice a5 C.length c5) (x == 1) _ R w9 ∧ OwnE (w4.heap.size + 1) C (.slice a5 C.length c5) w9) := Lib.hid (by rw [hm9]; exact ⟨HI.out.1.go (below_drewN (Below.refl _ _) m), HI.out.2⟩)
        clear hm9 HI HDO q0 q1 q2 q3 y0 y1 y2 y3 r0 r1 r2
        obtain ⟨⟨q0, q1, q2, q3, q4⟩, y0, y1, y2, y3, y4⟩ := I9.out.1.top
        obtain ⟨⟨p0, p1, p2, p3, p4⟩, f0, f1, f2, f3, f4⟩ := I9.out.1.res
        have HB := Lib.hid I9.out.1.bel
        rcases HDN.out with ⟨hdn, hb', hR'⟩ | ⟨hdn, hbad⟩
        · have HV := Lib.hid (rvalQ_any n1 n2 n3 C (x == 1) a5 C.length c5 w9 I9.out.2.rd (by omega))
          by_cases hE : valQ n1 n2 n3 C = 0
          · obtain ⟨hok, hdc⟩ := HF.out.2 hb' hR' hE
            have HRS := Lib.hid (HRES.out.symm.trans hdc)
            have e2 := HYE.out hok
            subst e2
            rw [hE] at HV
            rw [hdn]
            clear hE hok hdc hdn hb' hR' HDN HF HNO HYE HRES
            go_wp2_with (go_at_call 17; (with_reducible refine HV.out.mono ?_); rintro e w10 ⟨rfl, hb10⟩; clear HB p0 p1 p2 p3 p4 f0 f1 f2 f3 f4 q0 q1 q2 q3 q4 y0 y1 y2 y3 y4; have DL10 := Lib.hid (I9.out.1.go hb10); have OV10 := Lib.hid (I9.out.2.below hb10); have HB := Lib.hid DL10.out.bel; obtain ⟨⟨p0, p1, p2, p3, p4⟩, f0, f1, f2, f3, f4⟩ := DL10.out.res; obtain ⟨⟨q0, q1, q2, q3, q4⟩, y0, y1, y2, y3, y4⟩ := DL10.out.top; clear hb10)
            refine bodyPost_ret (v := .tuple #[.agg #[.int .i64 n1, .int .i64 n2, .int .i64 n3, .slice a5 C.length c5, .bool (x == 1)], .int .i64 0]) (by simp [results, Try.results24, go_sem, *]) rfl ⟨_, rfl, ⟨a5, C.length, c5, by rw [HRS.out], ?_⟩, ?_⟩
            · rw [HRS.out]
              have hlt9 : w.heap.size < w4.heap.size + 1 := by have := HRM.out; omega
              exact ((((((OV10.out.keep hlt9 0 _).keep hlt9 1 _).keep hlt9 2 _).keep hlt9 3 _)).keep hlt9 4 _).mono (Nat.le_of_lt hlt9)
            · exact bsetB (bsetB (bsetB (bsetB (bsetB HB.out _ _ _ (Nat.le_refl _)) _ _ _ (Nat.le_refl _)) _ _ _ (Nat.le_refl _)) _ _ _ (Nat.le_refl _)) _ _ _ (Nat.le_refl _)
          · obtain ⟨e1, e2⟩ := HNO.out (HF.out.1 (.inr (.inr hE)))
            subst e1 e2
            have hE2 : (valQ n1 n2 n3 C != 0) = true := by simpa using hE
            rw [hdn]
            generalize valQ n1 n2 n3 C = E at *
            clear hE hdn hb' hR' HDN HF HNO HYE HRES
            go_wp2_with (go_at_call 17; (with_reducible refine HV.out.mono ?_); rintro e w10 ⟨rfl, hb10⟩; clear HB p0 p1 p2 p3 p4 f0 f1 f2 f3 f4 q0 q1 q2 q3 q4 y0 y1 y2 y3 y4; have DL10 := Lib.hid (I9.out.1.go hb10); have HB := Lib.hid DL10.out.bel; obtain ⟨⟨p0, p1, p2, p3, p4⟩, f0, f1, f2, f3, f4⟩ := DL10.out.res; clear hb10)
            refine bodyPost_ret (v := .tuple #[.agg #[.int .i64 0, .int .i64 0, .int .i64 0, .slice none 0 0, .bool false], .int .i64 2]) (by simp [results, Try.results24, go_sem, *]) rfl ⟨_, rfl, ⟨none, 0, 0, rfl, OwnE.empty _ _⟩, ?_⟩
            exact bsetB (bsetB (bsetB (bsetB (bsetB HB.out _ _ _ (Nat.le_refl _)) _ _ _ (Nat.le_refl _)) _ _ _ (Nat.le_refl _)) _ _ _ (Nat.le_refl _)) _ _ _ (Nat.le_refl _)
        · obtain ⟨e1, e2⟩ := HNO.out (HF.out.1 (by rcases hbad with h | h; exact .inl h; exact .inr (.inl h)))
          subst e1 e2
          rw [hdn]
          clear hdn hbad HDN HF HNO HYE HRES
          go_wp2
          refine bodyPost_ret (v := .tuple #[.agg #[.int .i64 0, .int .i64 0, .int .i64 0, .slice none 0 0, .bool false], .int .i64 2]) (by simp [results, Try.results24, go_sem, *]) rfl ⟨_, rfl, ⟨none, 0, 0, rfl, OwnE.empty _ _⟩, ?_⟩
          exact bsetB (bsetB (bsetB (bsetB (bsetB HB.out _ _ _ (Nat.le_refl _)) _ _ _ (Nat.le_refl _)) _ _ _ (Nat.le_refl _)) _ _ _ (Nat.le_refl _)) _ _ _ (Nat.le_refl _)
theorem decC_len (L : List Int) : (decC L).L.length ≤ 32 := by
  unfold decC
  split
  · rename_i h
    show (esE (qR L) (qN L).toNat).length ≤ 32
    rw [esE_len]
    have := h.2.1
    omega
  · exact Nat.zero_le _
set_option maxRecDepth 100000 in
set_option maxHeartbeats 4000000 in
theorem frequentCodes_walk (S : Int) (al : Option Addr) (ln cap : Nat) (z : List Int) (n : Int) (bl : Option Addr) (lm cbp : Nat) (y : List Int) (W : World) (wa : (Lit.int .i64 S).wf = true) (w0 : InRow .i64 W al ln cap z) (wn : (Lit.int .i64 n).wf = true) (w1 : InRow .u8 W bl lm cbp y) :
    Calls Try.prog 5 #[.int .i64 S, .slice al ln cap, .int .i64 n, .slice bl lm cbp] W fun e w' => e = .returned (.bool true) ∧ Below W.heap.size W w' := by
  have gn : lm ≤ 9223372036854775807 := by have := w1.1; have := w1.2.1; unfold maxLen at this; omega
  by_cases hn : 300 < lm
  · clear wa wn w0 w1
    go_enter Try.func5, Try.ntmps5
    go_wp2_with (go_at_call 18; refine (knownQ_any _).mono ?_; rintro e w2 ⟨rfl, hb2⟩)
    go_ret
    exact ⟨rfl, hb2⟩
  · have hn2 : (lm : Int) ≤ 300 := by omega
    obtain ⟨S0, S1⟩ := wf_bd wa
    obtain ⟨n0, n1⟩ := wf_bd wn
    have h1 := madeQ_any S (z.take ln) _ W S0 S1 (inRow_rdJ w0)
    have hm := Lib.hid (madeQ_ok S (z.take ln))
    generalize madeQ S (z.take ln) = cm at *
    have h2 := fun (v : Value) (w : World) (hv : RdQ cm v w) => spoilQ_any cm v n w hm.out.1.wf hv (by have := hm.out.2; omega) n0 n1
    have HC := Lib.hid (inRow_rd w1)
    generalize y.take lm = L at *
    have HD1 := Lib.hid (fun x (hb : Below W.heap.size W x) => qdec_any L (.slice bl lm cbp) x (HC.out.below hb))
    have HD2 := Lib.hid (fun x (hb : Below W.heap.size W x) => rqdec_any L (.slice bl lm cbp) x (HC.out.below hb))
    have HDL := Lib.hid (decC_len L)
    generalize decC L = d at *
    generalize errC L = DE at *
    clear wa wn w0 w1
    go_enter Try.func5, Try.ntmps5
    go_wp2_with (first
      | (go_at_call 9; (with_reducible refine h1.mono ?_); rintro e w2 ⟨v2, B2v, rfl, hr2, hb2⟩; have O2 := Lib.hid hr2.rd; have B2 := Lib.hid hb2; clear h1 hr2 hb2)
      | (go_at_call 8; (with_reducible refine (h2 _ _ O2.out).mono ?_); rintro e w3 ⟨c, v3, rfl, hwc, ⟨a3, n3, c3, rfl, ho3⟩, hlc, hb3⟩; have HWc := Lib.hid hwc; have HLc := Lib.hid hlc; have S3 := Lib.hid (SkQ.new ho3); have B3 := Lib.hid (bal (bgo B2.out hb3) (.cells #[.int .i64 c.S, .int .i64 c.T, .int .i64 c.K, .slice a3 n3 c3, .bool c.s] 25)); clear h2 hwc hlc ho3 hb3 B2 O2 hm; have f1 := (fun (w : World) (hv : RdE c.L (.slice a3 n3 c3) w) => pencQ_any c.S c.T c.K c.L c.s a3 n3 c3 w hv (by have := HLc.out; omega)); have f2 := (fun (w : World) (hv : RdE c.L (.slice a3 n3 c3) w) => rencQ_any c.S c.T c.K c.L c.s a3 n3 c3 w hv (by have := HLc.out; omega)); have HBK : Hid (∀ h : valQ c.S c.T c.K c.L = 0, decC (codQ c.S c.T c.K c.L c.s) = c ∧ errC (codQ c.S c.T c.K c.L c.s) = 0) := Lib.hid (fun h => decC_cod c.s h); generalize codQ c.S c.T c.K c.L c.s = R at *; generalize valQ c.S c.T c.K c.L = E at *; obtain ⟨p0, p1, p2, p3, p4⟩ := S3.out.cells)
      | (go_at_call 21; (with_reducible refine (f1 _ S3.out.rdE).mono ?_); rintro e w4 ⟨v4, rfl, ho4, hb4⟩; have S4 := Lib.hid (S3.out.go hb4); have B4 := Lib.hid (bgo B3.out hb4); have O4 := Lib.hid ho4.rd; clear f1 ho4 hb4 S3 B3 p0 p1 p2 p3 p4; obtain ⟨p0, p1, p2, p3, p4⟩ := S4.out.cells)
      | (go_at_call 22; (with_reducible refine (f2 _ S4.out.rdE).mono ?_); rintro e w5 ⟨v5, rfl, ho5, hb5⟩; have S5 := Lib.hid (S4.out.go hb5); have B5 := Lib.hid (bgo B4.out hb5); have P5 := Lib.hid ho5.rd; have O5 := Lib.hid (O4.out.below hb5); clear f2 ho5 hb5 S4 B4 O4 p0 p1 p2 p3 p4)
      | (go_at_call 23; (with_reducible refine (HD1.out _ B5.out).mono ?_); rintro e w6 ⟨u6, rfl, ⟨a6, n6, c6, rfl, ho6⟩, hb6⟩; have HDD := Lib.hid (SkQ.new ho6.rd); have S6 := Lib.hid ((S5.out.go hb6).alloc (.cells #[.int .i64 d.S, .int .i64 d.T, .int .i64 d.K, .slice a6 n6 c6, .bool d.s] 25)); have B6 := Lib.hid (bal (bgo B5.out hb6) (.cells #[.int .i64 d.S, .int .i64 d.T, .int .i64 d.K, .slice a6 n6 c6, .bool d.s] 25)); have P6 := Lib.hid ((P5.out.below hb6).below (b1 (.cells #[.int .i64 d.S, .int .i64 d.T, .int .i64 d.K, .slice a6 n6 c6, .bool d.s] 25))); have O6 := Lib.hid ((O5.out.below hb6).below (b1 (.cells #[.int .i64 d.S, .int .i64 d.T, .int .i64 d.K, .slice a6 n6 c6, .bool d.s] 25))); clear ho6 hb6 S5 B5 P5 O5)
      | (go_at_call 24; (with_reducible refine (HD2.out _ B6.out).mono ?_); rintro e w7 ⟨u7, rfl, ⟨a7, n7, c7, rfl, ho7⟩, hb7⟩; have HEE := Lib.hid (SkQ.new ho7.rd); have HD7 := Lib.hid ((HDD.out.go hb7).alloc (.cells #[.int .i64 d.S, .int .i64 d.T, .int .i64 d.K, .slice a7 n7 c7, .bool d.s] 25)); have S7 := Lib.hid ((S6.out.go hb7).alloc (.cells #[.int .i64 d.S, .int .i64 d.T, .int .i64 d.K, .slice a7 n7 c7, .bool d.s] 25)); have B7 := Lib.hid (bal (bgo B6.out hb7) (.cells #[.int .i64 d.S, .int .i64 d.T, .int .i64 d.K, .slice a7 n7 c7, .bool d.s] 25)); have P7 := Lib.hid ((P6.out.below hb7).below (b1 (.cells #[.int .i64 d.S, .int .i64 d.T, .int .i64 d.K, .slice a7 n7 c7, .bool d.s] 25))); have O7 := Lib.hid ((O6.out.below hb7).below (b1 (.cells #[.int .i64 d.S, .int .i64 d.T, .int .i64 d.K, .slice a7 n7 c7, .bool d.s] 25))); clear ho7 hb7 S6 B6 P6 O6 HDD; have cv1 := O7.out.conv; have cv2 := P7.out.conv; obtain ⟨p0, p1, p2, p3, p4⟩ := S7.out.cells; obtain ⟨q0, q1, q2, q3, q4⟩ := HD7.out.cells; obtain ⟨t0, t1, t2, t3, t4⟩ := HEE.out.cells)
      | (go_at_call 15; (with_reducible refine (sameQ_any d _ _ _ HD7.out.rd HEE.out.rd (by have := HDL.out; omega)).mono ?_); rintro e w8 ⟨rfl, hb8⟩; have S8 := Lib.hid (S7.out.go hb8); have B8 := Lib.hid (bgo B7.out hb8); have O8 := Lib.hid (O7.out.below hb8); clear hb8 S7 B7 O7 P7 HD7 HEE cv1 cv2 p0 p1 p2 p3 p4 q0 q1 q2 q3 q4 t0 t1 t2 t3 t4)
      | (go_at_call 23; (have hE : E = 0 := eq_of_beq (by assumption)); obtain ⟨k1, k2⟩ := HBK.out hE; have hd := qdec_any R v4 _ O8.out; rw [k1, k2] at hd; clear k1 k2 hE; (with_reducible refine hd.mono ?_); rintro e w9 ⟨u9, rfl, ⟨a9, n9, c9, rfl, ho9⟩, hb9⟩; have D9 := Lib.hid (SkQ.new ho9.rd); have S9 := Lib.hid ((S8.out.go hb9).alloc (.cells #[.int .i64 c.S, .int .i64 c.T, .int .i64 c.K, .slice a9 n9 c9, .bool c.s] 25)); have B9 := Lib.hid (bal (bgo B8.out hb9) (.cells #[.int .i64 c.S, .int .i64 c.T, .int .i64 c.K, .slice a9 n9 c9, .bool c.s] 25)); clear ho9 hb9 S8 B8 O8 hd; obtain ⟨p0, p1, p2, p3, p4⟩ := S9.out.cells; obtain ⟨q0, q1, q2, q3, q4⟩ := D9.out.cells)
      | (go_at_call 15; (with_reducible refine (sameQ_any c _ _ _ S9.out.rd D9.out.rd (by have := HLc.out; omega)).mono ?_); rintro e w10 ⟨rfl, hb10⟩; have B10 := Lib.hid (bgo B9.out hb10); clear hb10 S9 B9 D9 p0 p1 p2 p3 p4 q0 q1 q2 q3 q4)
      | (go_at_call 18; (with_reducible refine (knownQ_any _).mono ?_); rintro e wz ⟨rfl, hbz⟩; have BZ : Hid (Below W.heap.size W wz) := Lib.hid (by first | exact bgo B10.out hbz | exact bgo B8.out hbz); clear hbz))
    all_goals
      go_ret
      exact ⟨rfl, BZ.out⟩
end Go.Proofs.Ytmmdnomfpfcjiaa
