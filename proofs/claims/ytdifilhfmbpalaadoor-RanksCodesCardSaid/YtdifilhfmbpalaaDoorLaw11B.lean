/- The walk of the law RanksBounds. -/
import Derived.Test.YtdifilhfmbpalaaDoorLaw11X
namespace Go.Proofs.YtdifilhfmbpalaaDoor
open Go.RowKit
set_option linter.unusedVariables false
set_option linter.unusedSimpArgs false
/-- k insertions of a law. -/
structure Bd (K : ByteArray) (S : Int) (k : Nat) (c : RK) (D : Nat) : Prop where
  kn : Kn K c D
  hS : c.S = S
  sat : c.s = false
  tot : c.T ≤ 4294967295 * (k : Int)
theorem Bd.new {S : Int} (h : szR S = true) (K : ByteArray) : Bd K S 0 ⟨S, 0, 0, [], false⟩ 0 := ⟨Kn.new h K, rfl, rfl, by simp⟩
theorem sumK_at {A B : RK} {Z : List Int} {a : Int} (vA : ValR A.S A.T A.K A.L) (vB : ValR B.S B.T B.K B.L) : a ≤ (sumK A B Z a).2 ∧ (sumK A B Z a).2 ≤ a + 41 := by
  have hv := (sumK_val (Z := Z) (a := a) vA vB).nl
  unfold sumK at hv ⊢
  cases hF : aF A.T B.T with
  | true => rw [if_pos rfl]; dsimp only; omega
  | false =>
    rw [hF, if_neg (by simp)] at hv
    rw [if_neg (by simp)]
    have hb := stl_bd (C := Z) vA.s0 0 (joinL A.L B.L) (aS A.K B.K) a (aS_bd _ _).1 (aS_bd _ _).2
    dsimp only at hv ⊢
    omega
theorem Bd.step {K x : ByteArray} {S : Int} {k : Nat} {c : RK} {D r : Nat} (h : Bd K S k c D) (hk : k < 14) (hi : itemE (byt x) (r : Int) = 0) (Z : List Int) (a : Int) (a0 : 0 ≤ a) (a1 : a ≤ 1073741824) :
    Bd K S (k + 1) (insR c x (r : Int) Z a).1 (D + if lessK K x = true then 0 else r) ∧ (insR c x (r : Int) Z a).1.T = c.T + (r : Int) ∧ (a ≤ (insR c x (r : Int) Z a).2 ∧ (insR c x (r : Int) Z a).2 ≤ a + 41) ∧ insRE c x (r : Int) a = 0 := by
  have hir := itemR hi
  have ht := h.tot
  have hp : posR a = true := by unfold posR; simp; omega
  obtain ⟨h1, h2, h3, h4, h5⟩ := h.kn.ins hir.1 hir.2.1 hir.2.2 (by omega) Z a hp
  have ha := (insR_at (Z := Z) (a := a) h.kn.v hi hp).1
  have hat := sumK_at (Z := Z) (a := a) h.kn.v (Kn.one (k := K) h.kn.v.s0 h.kn.v.s1 h.kn.v.ev hir.1 hir.2.1 hir.2.2).v
  rw [← ha] at hat
  exact ⟨⟨by simpa using h1, by rw [h4, h.hS], by rw [h3, h.sat], by rw [h2]; omega⟩, h2, hat, h5⟩
/-- Both merged. -/
theorem Bd.mer {K : ByteArray} {S : Int} {k k2 : Nat} {c d : RK} {D E : Nat} (h : Bd K S k c D) (h2 : Bd K S k2 d E) (hk : k ≤ 14) (hk2 : k2 ≤ 14) (Z : List Int) (a : Int) (a0 : 0 ≤ a) (a1 : a ≤ 1073741824) :
    Kn K (merR c d Z a).1 (D + E) ∧ (merR c d Z a).1.T = c.T + d.T ∧ (merR c d Z a).1.s = false ∧ merRE c d a = 0 := by
  have hp : posR a = true := by unfold posR; simp; omega
  have hS : c.S = d.S := by rw [h.hS, h2.hS]
  have ht := h.tot
  have ht2 := h2.tot
  have hF : aF c.T d.T = false := by
    have := h.kn.v.t0
    unfold aF satF nat0
    rw [decide_eq_false_iff_not]
    omega
  have e1 : merR c d Z a = sumK c d Z a := by
    unfold merR
    rw [if_pos (valR_of h.kn.v), if_pos (valR_of h2.kn.v), if_pos ⟨hS, hp⟩]
  have e2 : merRE c d a = 0 := by
    unfold merRE
    rw [if_pos (valR_of h.kn.v), if_pos (valR_of h2.kn.v), if_pos ⟨hS, hp⟩]
  obtain ⟨h3, h4, h5, h6⟩ := h.kn.sum h2.kn Z a hF
  rw [e1]
  exact ⟨h3, h4, by rw [h5, h.sat, h2.sat]; rfl, e2⟩
theorem add_fit {a b : Int} (a0 : 0 ≤ a) (a1 : a ≤ 1152921504606846976) (b0 : 0 ≤ b) (b1 : b ≤ 1152921504606846976) : IntKind.i64.wrap (a + b) = a + b ∧ wrap64 (a + b) = a + b := by
  rw [IntKind.wrap_i64]
  unfold wrap64
  omega
theorem sub_fit {a b : Int} (a0 : 0 ≤ a) (a1 : a ≤ 1152921504606846976) (b0 : 0 ≤ b) (b1 : b ≤ 1152921504606846976) : IntKind.i64.wrap (a - b) = a - b ∧ wrap64 (a - b) = a - b := by
  rw [IntKind.wrap_i64]
  unfold wrap64
  omega
theorem MR.rdR {W : World} {g : Nat} {t : RK} {a : Option Addr} {n cap : Nat} {w : World} (h : MR W g t (.slice a n cap) w) : RdR t (.agg #[.int .i64 t.S, .int .i64 t.T, .int .i64 t.K, .slice a n cap, .bool t.s]) w := ⟨a, n, cap, rfl, h.2.1⟩
theorem MR.lv {W : World} {g : Nat} {t : RK} {v : Value} {w : World} (h : MR W g t v w) : RdL t.L v w := h.2.1
theorem MR.bel {W : World} {g : Nat} {t : RK} {v : Value} {w : World} (h : MR W g t v w) : Below W.heap.size W w := h.2.2
theorem MR.rs {W : World} {g : Nat} {t : RK} {v : Value} {w : World} (h : MR W g t v w) : RsS g t.S t.T t.K v t.s w := h.1
theorem mask2r (n : Int) : bits .and .i64 n 3 = n % 4 := i64_mask 2 (by decide) n
set_option maxRecDepth 100000 in
set_option maxHeartbeats 8000000 in
theorem ranksBounds_walk (S : Int) (al : Option Addr) (ln cap : Nat) (z : List Int) (bl : Option Addr) (lm cbp : Nat) (y : List Int) (dl : Option Addr) (lo cdp : Nat) (oo : List Int) (n : Int) (W : World) (wa : (Lit.int .i64 S).wf = true) (w0 : InRow .i64 W al ln cap z) (w1 : InRow .i64 W bl lm cbp y) (w2 : InRow .u8 W dl lo cdp oo) (wn : (Lit.int .i64 n).wf = true) (ht : TabP W) :
    Calls Tryd.prog 7 #[.int .i64 S, .slice al ln cap, .slice bl lm cbp, .slice dl lo cdp, .int .i64 n] W fun e w' => e = .returned (.bool true) ∧ Below W.heap.size W w' := by
  have HR := Lib.hid (inRow_rdJ w0)
  have HQ := Lib.hid (inRow_rdJ w1)
  have HZ := Lib.hid (inRow_rd w2)
  have hlen : (z.take ln).length = ln := by obtain ⟨h1, _⟩ := w0; simp; omega
  have hlem : (y.take lm).length = lm := by obtain ⟨h1, _⟩ := w1; simp; omega
  have HT := Lib.hid ht
  generalize z.take ln = L at *
  generalize y.take lm = M at *
  generalize oo.take lo = Z at *
  subst hlen hlem
  have hlL : (L.length : Int) ≤ 9223372036854775807 := by
    obtain ⟨_, _, _, _, h1, h2, _⟩ := HR.out
    unfold maxLen at h2
    omega
  have hlM : (M.length : Int) ≤ 9223372036854775807 := by
    obtain ⟨_, _, _, _, h1, h2, _⟩ := HQ.out
    unfold maxLen at h2
    omega
  have m1 := mask2r S
  have m2 := mask8r n
  have hsh := fun w (hb : Below W.heap.size W w) => short_any Z _ w (HZ.out.below hb)
  have h3 := fun w => key_any (n % 256) w (by omega) (by omega)
  have hks := keyS_bd (n % 256)
  have HK := Lib.hid (show keyB (byt (keyS (n % 256))) = true by unfold keyB; rw [byt_len]; simp; omega)
  have HKs := Lib.hid (show (keyS (n % 256)).size ≤ maxLen by unfold maxLen; omega)
  have hkn := fun w (hb : Below W.heap.size W w) => knownR_any w (HT.out.below hb)
  have e1 : 0 ≤ n % 256 ∧ n % 256 ≤ 255 := by omega
  obtain ⟨e10, e11⟩ := e1
  have e0 : 0 ≤ S % 4 ∧ S % 4 ≤ 3 := by omega
  obtain ⟨e00, e01⟩ := e0
  generalize keyS (n % 256) = K at *
  generalize n % 256 = r at *
  have hsz : szR (2 + 2 * (S % 4)) = true := by rw [szR_iff]; omega
  have h1 := fun w => pnewR_any (2 + 2 * (S % 4)) w
  rw [show newRE (2 + 2 * (S % 4)) = 0 by unfold newRE; rw [if_pos hsz], show newR (2 + 2 * (S % 4)) = ⟨2 + 2 * (S % 4), 0, 0, [], false⟩ by unfold newR; rw [if_pos hsz]] at h1
  have HS0 := Lib.hid (Bd.new hsz K)
  obtain ⟨sz, hz⟩ : ∃ sz, sz = 2 + 2 * (S % 4) := ⟨_, rfl⟩
  rw [← hz] at h1 HS0
  generalize hc0 : (⟨sz, 0, 0, [], false⟩ : RK) = c0 at *
  have HC0 := Lib.hid (show c0.L = [] by rw [← hc0])
  have HT0 := Lib.hid (show c0.T = 0 by rw [← hc0])
  have HSZ := Lib.hid hz
  generalize S % 4 = p at *
  clear wn w0 w1 w2 wa hks hc0 ht hsz hz
  by_cases hs : Z.length ≤ 100
  · rw [decide_eq_true hs] at hsh
    go_enter Tryd.func7, Tryd.ntmps7
    have hsz2 : 2 + 2 * p = sz := HSZ.out.symm
    go_wp2_with (first
      | (go_at_call 10; (with_reducible refine (hsh _ (Below.refl _ _)).mono ?_); rintro e w' ⟨rfl, rfl⟩)
      | (go_at_call 17; (with_reducible refine (h1 _).mono ?_); rintro e w3 ⟨v3, rfl, ⟨a3, n3, c3, rfl, ho3⟩, hb3⟩; have V3 := Lib.hid (VK2.new V2.out.one HC0.out V2.out.bel hb3 ho3 HC0.out V2.out.2.2.1); clear ho3 hb3 h1 V2)
      | (go_at_call 17; (with_reducible refine (h1 _).mono ?_); rintro e w2 ⟨v2, rfl, ⟨a2, n2, c2, rfl, ho2⟩, hb2⟩; have V2 := Lib.hid (VK1.new ho2 (.inl HC0.out) hb2); clear ho2 hb2)
      | (go_at_call 25; (with_reducible refine (h3 _).mono ?_); rintro e w4 ⟨rfl, hb4⟩; have V4 := Lib.hid (V3.out.go hb4); clear h3 hb4 V3))
    go_loopw [13, 17, 18, 19, 20, 21] (fun e o t b i _ wr => ∃ k : Nat, k ≤ L.length ∧ k ≤ 14 ∧ e = .int .i64 0 ∧ i = .int .i64 (k : Int) ∧ ∃ (c : RK) (a : Option Addr) (n cap D : Nat) (A TA : Int), o = .int .i64 (D : Int) ∧ t = .int .i64 TA ∧ b = .int .i64 A ∧ TA = c.T ∧ Hid (Bd K sz k c D ∧ (0 ≤ A ∧ A ≤ 41 * (k : Int)) ∧ VK2 W (w3.heap.size + 1) w2.heap.size c (.slice a n cap) w3.heap.size c0 (.slice a3 n3 c3) wr)) (fun _ _ _ _ i _ _ => 14 - (intOf i).toNat)
    case atStart => exact ⟨0, by omega, by omega, rfl, rfl, c0, a2, n2, c2, 0, 0, 0, rfl, rfl, rfl, HT0.out.symm, Lib.hid ⟨HS0.out, by omega, V4.out⟩⟩
    case round =>
      clear V4
      obtain ⟨k, hk, hk14, rfl, rfl, c, a, n, cap, D, A, TA, rfl, rfl, rfl, hTA, HI⟩ := hrel
      have HTA := Lib.hid hTA
      clear hTA
      by_cases hgo : k < L.length ∧ k < 14
      · obtain ⟨hlt, hlt14⟩ := hgo
        have mz := mask16r (L.getD k 0)
        have hit := fun w => bitem_any (L.getD k 0 % 65536) w (by omega) (by omega)
        have hks := keyS_bd (L.getD k 0 % 65536)
        have hit2 := itemS (L.getD k 0 % 65536)
        obtain ⟨q, hq⟩ := wt_nat (L.getD k 0 % 65536)
        have hwt := wtS_bd (L.getD k 0 % 65536)
        rw [hq] at hit hwt hit2
        have hsp := HI.out.1
        have hD := hsp.kn.d
        have hT := hsp.tot
        have hT0 := hsp.kn.v.t0
        obtain ⟨ha0, ha1⟩ := HI.out.2.1
        have hTA := HTA.out
        have hTA0 : 0 ≤ TA := by omega
        have hTA1 : TA ≤ 1152921504606846976 := by omega
        obtain ⟨hs2, hi2, hi3, hi4⟩ := hsp.step hlt14 hit2 Z A (by omega) (by omega)
        have hKz : (keyS (L.getD k 0 % 65536)).size ≤ maxLen := by unfold maxLen; omega
        obtain ⟨_, a6, cap6, he6, _, _, hc6⟩ := HR.out.below HI.out.2.2.bel
        simp only [Value.slice.injEq, true_and] at he6
        obtain ⟨rfl, rfl⟩ := he6
        obtain ⟨b6, off6, rfl, hb6, hcell6⟩ := hc6 (by omega)
        have hcc6 := hcell6 k hlt
        have hlI : (k : Int) < (L.length : Int) := by omega
        have h14I : (k : Int) < 14 := by omega
        clear hcell6 hc6 hks hq hit2
        generalize L.getD k 0 = y0 at *
        generalize y0 % 65536 = j at *
        generalize keyS j = K1 at *
        have HIN := Lib.hid (fun (w : World) (v : Value) (hv : RdR c v w) (hb : Below W.heap.size W w) => pinsR_any c K1 (q : Int) v _ Z A w hv hsp.kn.v.lok (HZ.out.below hb) (by omega) (by omega) hKz (HT.out.below hb))
        rw [hi4] at HIN
        have HS2 := Lib.hid hs2
        have HI2 := Lib.hid hi2
        have HI3 := Lib.hid hi3
        generalize insR c K1 (q : Int) Z A = e at *
        obtain ⟨e, B⟩ := e
        dsimp only at HIN HS2 HI2 HI3
        have HVv := Lib.hid HI.out.2.2
        have HAB : Hid (41 * (k : Int) + 41 = 41 * ((k + 1 : Nat) : Int)) := Lib.hid (by omega)
        obtain ⟨qa, qa2⟩ := add_fit (a := (D : Int)) (b := (q : Int)) (Int.natCast_nonneg _) (by omega) (by omega) (by omega)
        obtain ⟨qb, qb2⟩ := add_fit (a := TA) (b := (q : Int)) hTA0 hTA1 (by omega) (by omega)
        have HA0 := Lib.hid ha0
        have HA1 := Lib.hid ha1
        have hle := leq_eq K K1
        clear hsp hs2 hi2 hi3 hi4 hKz hD hT hT0 ha0 ha1 hTA hTA0 hTA1
        obtain ⟨⟨p0, p1, p2, p3, p4⟩, -⟩ := HVv.out.one.cells
        cases hbq : lessK K K1
        all_goals
          rw [hbq] at hle HS2
        case' false => have hle2 : (Op.bytesLess K1.toList K.toList || K1.toList == K.toList) = true := hle
        case' true => have hle2 : (Op.bytesLess K1.toList K.toList || K1.toList == K.toList) = false := hle
        all_goals
          clear hle hbq
          go_wp2_with (first
            | (go_at_call 14; (with_reducible refine (hit _).mono ?_); rintro r w5 ⟨rfl, hb5⟩; have V5 := Lib.hid ((HVv.out.go hb5).al (.cells #[.string K1, .int .i64 (q : Int)] 32)); have T5 := Lib.hid (Two.new w5 K1 (q : Int) 32); have zz5 := Lib.hid (Nat.lt_of_lt_of_le HVv.out.one.lt hb5.size); clear hit hb5 p0 p1 p2 p3 p4 HVv; obtain ⟨⟨p0, p1, p2, p3, p4⟩, -⟩ := V5.out.one.cells)
            | (go_at_call 15; (with_reducible refine (HIN.out _ _ V5.out.one.rd V5.out.bel).mono ?_); rintro r w6 ⟨u, rfl, ⟨a7, n7, c7, rfl, ho7⟩, hb7⟩; have V6 := Lib.hid (V5.out.go hb7); have T6 := Lib.hid (T5.out.below hb7); have O6 := Lib.hid (ho7.mono V5.out.size); (have ne1 : ¬ w5.heap.size = w2.heap.size := by have := zz5.out; omega); (have ne2 : ¬ w2.heap.size = w5.heap.size := by omega); clear HIN ho7 hb7 p0 p1 p2 p3 p4 V5 T5; obtain ⟨⟨p0, p1, p2, p3, p4⟩, f0, f1, f2, f3, f4⟩ := V6.out.one.cells; obtain ⟨t0, t1, -⟩ := T6.out))
        · exact ⟨⟨k + 1, by omega, by omega, rfl, by go_num, e, a7, n7, c7, D, B, TA + (q : Int), rfl, rfl, rfl, by rw [HI2.out]; exact congrArg (· + (q : Int)) HTA.out, Lib.hid ⟨by have h := HS2.out; simpa using h, by have h1 := HI3.out; have h2 := HA0.out; have h3 := HA1.out; have h4 := HAB.out; omega, V6.out.put1 O6.out⟩⟩, by simp [intOf]; omega⟩
        · exact ⟨⟨k + 1, by omega, by omega, rfl, by go_num, e, a7, n7, c7, D + q, B, TA + (q : Int), rfl, rfl, rfl, by rw [HI2.out]; exact congrArg (· + (q : Int)) HTA.out, Lib.hid ⟨by have h := HS2.out; simpa using h, by have h1 := HI3.out; have h2 := HA0.out; have h3 := HA1.out; have h4 := HAB.out; omega, V6.out.put1 O6.out⟩⟩, by simp [intOf]; omega⟩
      · go_upto_region 9 with (fail)
        refine wp_meetU 50 12 (fun us wx => wx = wr ∧ us[11]? = some (.bool false)) ?_ ?_
        · intro G hG
          have hgo2 : ¬ (k : Int) < (L.length : Int) ∨ ((k : Int) < (L.length : Int) ∧ ¬ (k : Int) < 14) := by omega
          rcases hgo2 with hg1 | ⟨hg1, hg2⟩
          all_goals
            go_wp2
            exact offU_go hG rfl rfl rfl ⟨rfl, rfl⟩
        intro aX wX us hoff hX
        obtain ⟨hus, rfl⟩ := hoff
        obtain ⟨rfl, hX⟩ := hX
        match us, hus with
        | [x0, x1, x2, x3, x4, x5, x6, x7, x8, x9, x10, x11], _ =>
          simp only [List.getElem?_cons_succ, List.getElem?_cons_zero, Option.some.injEq] at hX
          subst hX
          simp only [List.take_succ_cons, List.take_zero, List.drop_succ_cons, List.drop_zero, List.cons_append, List.nil_append]
          have HC := Lib.hid HI.out.1
          have HB := Lib.hid (show 0 ≤ A ∧ A ≤ 574 by have := HI.out.2.1; omega)
          have HV := Lib.hid HI.out.2.2
          have hk14' := Lib.hid hk14
          clear HI hgo hk
          go_wp2
          go_loopw [15, 17, 18, 19, 22, 23] (fun e o t b i _ wr => ∃ k : Nat, k ≤ M.length ∧ k ≤ 14 ∧ e = .int .i64 0 ∧ i = .int .i64 (k : Int) ∧ ∃ (d : RK) (a9 : Option Addr) (n9 cap9 E : Nat) (A TA : Int), o = .int .i64 ((D : Int) + (E : Int)) ∧ t = .int .i64 TA ∧ b = .int .i64 A ∧ c.T + d.T = TA ∧ Hid (Bd K sz k d E ∧ (0 ≤ A ∧ A ≤ 574 + 41 * (k : Int)) ∧ VK2 W (w3.heap.size + 1) w2.heap.size c (.slice a n cap) w3.heap.size d (.slice a9 n9 cap9) wr)) (fun _ _ _ _ i _ _ => 14 - (intOf i).toNat)
          case atStart => exact ⟨0, by omega, by omega, rfl, rfl, c0, a3, n3, c3, 0, A, TA, by simp, rfl, rfl, by rw [HT0.out, Int.add_zero]; exact HTA.out.symm, Lib.hid ⟨HS0.out, by have := HB.out; omega, HV.out⟩⟩
          case round =>
            clear HV
            obtain ⟨k2, hk2, hk142, rfl, rfl, d, a9, n9, cap9, E, A, TA, rfl, rfl, rfl, hTA, HI⟩ := hrel
            have HTA9 := Lib.hid hTA
            clear HTA
            have HTA := HTA9
            clear HTA9 hTA
            have hD1 := HC.out.kn.d
            have hT1 := HC.out.tot
            have hT2 := HC.out.kn.v.t0
            have hkk := hk14'.out
            by_cases hgo : k2 < M.length ∧ k2 < 14
            · obtain ⟨hlt, hlt14⟩ := hgo
              have mz := mask16r (M.getD k2 0)
              have hit := fun w => bitem_any (M.getD k2 0 % 65536) w (by omega) (by omega)
              have hks := keyS_bd (M.getD k2 0 % 65536)
              have hit2 := itemS (M.getD k2 0 % 65536)
              obtain ⟨q, hq⟩ := wt_nat (M.getD k2 0 % 65536)
              have hwt := wtS_bd (M.getD k2 0 % 65536)
              rw [hq] at hit hwt hit2
              have hsp := HI.out.1
              have hD := hsp.kn.d
              have hT := hsp.tot
              have hT0 := hsp.kn.v.t0
              obtain ⟨ha0, ha1⟩ := HI.out.2.1
              have hTA := HTA.out
              have hTA0 : 0 ≤ TA := by omega
              have hTA1 : TA ≤ 1152921504606846976 := by omega
              obtain ⟨hs2, hi2, hi3, hi4⟩ := hsp.step hlt14 hit2 Z A (by omega) (by omega)
              have hKz : (keyS (M.getD k2 0 % 65536)).size ≤ maxLen := by unfold maxLen; omega
              obtain ⟨_, a6, cap6, he6, _, _, hc6⟩ := HQ.out.below HI.out.2.2.bel
              simp only [Value.slice.injEq, true_and] at he6
              obtain ⟨rfl, rfl⟩ := he6
              obtain ⟨b6, off6, rfl, hb6, hcell6⟩ := hc6 (by omega)
              have hcc6 := hcell6 k2 hlt
              have hlI : (k2 : Int) < (M.length : Int) := by omega
              have h14I : (k2 : Int) < 14 := by omega
              clear hcell6 hc6 hks hq hit2
              generalize M.getD k2 0 = y0 at *
              generalize y0 % 65536 = j at *
              generalize keyS j = K1 at *
              have HIN := Lib.hid (fun (w : World) (v : Value) (hv : RdR d v w) (hb : Below W.heap.size W w) => pinsR_any d K1 (q : Int) v _ Z A w hv hsp.kn.v.lok (HZ.out.below hb) (by omega) (by omega) hKz (HT.out.below hb))
              rw [hi4] at HIN
              have HS2 := Lib.hid hs2
              have HI2 := Lib.hid hi2
              have HI3 := Lib.hid hi3
              generalize insR d K1 (q : Int) Z A = e at *
              obtain ⟨e, B⟩ := e
              dsimp only at HIN HS2 HI2 HI3
              have HVv := Lib.hid HI.out.2.2
              have HAB : Hid (574 + 41 * (k2 : Int) + 41 = 574 + 41 * ((k2 + 1 : Nat) : Int)) := Lib.hid (by omega)
              obtain ⟨qa, qa2⟩ := add_fit (a := (D : Int) + (E : Int)) (b := (q : Int)) (by omega) (by omega) (by omega) (by omega)
              obtain ⟨qb, qb2⟩ := add_fit (a := TA) (b := (q : Int)) hTA0 hTA1 (by omega) (by omega)
              have HA0 := Lib.hid ha0
              have HA1 := Lib.hid ha1
              have hle := leq_eq K K1
              clear hkk hsp hs2 hi2 hi3 hi4 hKz hD hT hT0 ha0 ha1 hTA hTA0 hTA1 hD1 hT1 hT2
              obtain ⟨⟨p0, p1, p2, p3, p4⟩, -⟩ := HVv.out.two.cells
              cases hbq : lessK K K1
              all_goals
                rw [hbq] at hle HS2
              case' false => have hle2 : (Op.bytesLess K1.toList K.toList || K1.toList == K.toList) = true := hle
              case' true => have hle2 : (Op.bytesLess K1.toList K.toList || K1.toList == K.toList) = false := hle
              all_goals
                clear hle hbq
                go_wp2_with (first
                  | (go_at_call 14; (with_reducible refine (hit _).mono ?_); rintro r w5 ⟨rfl, hb5⟩; have V5 := Lib.hid ((HVv.out.go hb5).al (.cells #[.string K1, .int .i64 (q : Int)] 32)); have T5 := Lib.hid (Two.new w5 K1 (q : Int) 32); have zz5 := Lib.hid (Nat.lt_of_lt_of_le HVv.out.two.lt hb5.size); clear hit hb5 p0 p1 p2 p3 p4 HVv; obtain ⟨⟨p0, p1, p2, p3, p4⟩, -⟩ := V5.out.two.cells)
                  | (go_at_call 15; (with_reducible refine (HIN.out _ _ V5.out.two.rd V5.out.bel).mono ?_); rintro r w6 ⟨u, rfl, ⟨a7, n7, c7, rfl, ho7⟩, hb7⟩; have V6 := Lib.hid (V5.out.go hb7); have T6 := Lib.hid (T5.out.below hb7); have O6 := Lib.hid (ho7.mono V5.out.size); (have ne1 : ¬ w5.heap.size = w3.heap.size := by have := zz5.out; omega); (have ne2 : ¬ w3.heap.size = w5.heap.size := by omega); clear HIN ho7 hb7 p0 p1 p2 p3 p4 V5 T5; obtain ⟨⟨p0, p1, p2, p3, p4⟩, f0, f1, f2, f3, f4⟩ := V6.out.two.cells; obtain ⟨t0, t1, -⟩ := T6.out))
              · exact ⟨⟨k2 + 1, by omega, by omega, rfl, by go_num, e, a7, n7, c7, E, B, TA + (q : Int), rfl, rfl, rfl, by rw [HI2.out, ← Int.add_assoc]; exact congrArg (· + (q : Int)) HTA.out, Lib.hid ⟨by have h := HS2.out; simpa using h, by have h1 := HI3.out; have h2 := HA0.out; have h3 := HA1.out; have h4 := HAB.out; omega, V6.out.put2 O6.out⟩⟩, by simp [intOf]; omega⟩
              · exact ⟨⟨k2 + 1, by omega, by omega, rfl, by go_num, e, a7, n7, c7, E + q, B, TA + (q : Int), by rw [Int.natCast_add, ← Int.add_assoc], rfl, rfl, by rw [HI2.out, ← Int.add_assoc]; exact congrArg (· + (q : Int)) HTA.out, Lib.hid ⟨by have h := HS2.out; simpa using h, by have h1 := HI3.out; have h2 := HA0.out; have h3 := HA1.out; have h4 := HAB.out; omega, V6.out.put2 O6.out⟩⟩, by simp [intOf]; omega⟩
            · go_upto_region 17 with (fail)
              refine wp_meetU 91 12 (fun us wx => wx = wr ∧ us[11]? = some (.bool false)) ?_ ?_
              · intro G hG
                have hgo2 : ¬ (k2 : Int) < (M.length : Int) ∨ ((k2 : Int) < (M.length : Int) ∧ ¬ (k2 : Int) < 14) := by omega
                rcases hgo2 with hg1 | ⟨hg1, hg2⟩
                all_goals
                  go_wp2
                  exact offU_go hG rfl rfl rfl ⟨rfl, rfl⟩
              intro aX wX us hoff hX
              obtain ⟨hus, rfl⟩ := hoff
              obtain ⟨rfl, hX⟩ := hX
              match us, hus with
              | [x0, x1, x2, x3, x4, x5, x6, x7, x8, x9, x10, x11], _ =>
                simp only [List.getElem?_cons_succ, List.getElem?_cons_zero, Option.some.injEq] at hX
                subst hX
                simp only [List.take_succ_cons, List.take_zero, List.drop_succ_cons, List.drop_zero, List.cons_append, List.nil_append]
                have hA := HI.out.2.1
                have hHB := HB.out
                obtain ⟨hm, hmT, hms, hmE⟩ := HC.out.mer HI.out.1 hkk hk142 Z A hA.1 (by omega)
                have hlc := HC.out.kn.v.lok
                have hld := HI.out.1.kn.v.lok
                have HM := Lib.hid (fun (w : World) (v u : Value) (h1 : RdR c v w) (h2 : RdR d u w) (hb : Below W.heap.size W w) => pmerR_any c d v u _ Z A w h1 h2 hlc hld (HZ.out.below hb))
                rw [hmE] at HM
                have HV := Lib.hid HI.out.2.2
                have hE1 := HI.out.1.kn.d
                have hE2 := HI.out.1.tot
                generalize merR c d Z A = m at *
                obtain ⟨m, B⟩ := m
                dsimp only at hm hmT hms HM
                have hup := hm.up
                have hdn := hm.dn
                have hmd := hm.d
                have hmv := hm.v
                have hle := rnkN_le K m.L 0
                have hsum := hmv.sum
                have hk0 := hmv.k0
                have hk1 := hmv.k1
                have hrk : rkR m K = (rnkN K 0 m.L : Nat) ∧ rkRE m K = 0 := by
                  unfold rkR rkRE
                  rw [if_pos (valR_of hmv), if_pos HK.out, if_pos (valR_of hmv), if_pos HK.out]
                  exact ⟨rfl, rfl⟩
                have hmt1 := hmv.t1
                have HRK := Lib.hid (fun (v : Value) (w : World) (hv : RdR m v w) => prank_any m v K w hv hmv.lok HKs.out)
                rw [hrk.1, hrk.2] at HRK
                have HVL := Lib.hid (fun (w : World) (a : Option Addr) (n cap : Nat) (hv : RdL m.L (.slice a n cap) w) => pvalR_any m.S m.T m.K m.L m.s a n cap w hv hmv.lok)
                rw [valR_of hmv] at HVL
                obtain ⟨x, hx⟩ : ∃ x, x = rnkN K 0 m.L := ⟨_, rfl⟩
                rw [← hx] at HRK hup hdn hle
                obtain ⟨y, hy⟩ : ∃ y, y = D + E := ⟨_, rfl⟩
                rw [← hy] at hup hdn hmd
                obtain ⟨mS, mT, mK, mL, ms⟩ := m
                dsimp only at *
                obtain rfl : ms = false := hms
                obtain rfl : mT = TA := by rw [hmT]; exact HTA.out
                have hx60 : (x : Int) ≤ 1152921504606846976 := by omega
                have hy60 : (y : Int) ≤ 1152921504606846976 := by omega
                obtain ⟨q1, q2⟩ := sub_fit (Int.natCast_nonneg x) hx60 (Int.natCast_nonneg y) hy60
                obtain ⟨q3, q4⟩ := sub_fit (Int.natCast_nonneg y) hy60 (Int.natCast_nonneg x) hx60
                have hy' : (D : Int) + (E : Int) = (y : Int) := by omega
                rw [hy']
                clear hy' hm hmT hmE hmv hrk hx hy hle hsum HC HI hA HTA hHB hlc hld hE1 hE2 hmd hmt1 hD1 hT1 hT2 hk0 hk1 HB hgo hk2 hk142 hkk hk14'
                obtain ⟨⟨p0, p1, p2, p3, p4⟩, -⟩ := HV.out.one.cells
                obtain ⟨⟨r0, r1, r2, r3, r4⟩, -⟩ := HV.out.two.cells
                go_wp2_with (first
                  | (go_at_call 22; (with_reducible refine (HM.out _ _ _ HV.out.one.rd HV.out.two.rd HV.out.bel).mono ?_); rintro r w7 ⟨u, rfl, ⟨a5, n5, c5, rfl, ho5⟩, hb7⟩; have V7 : Hid (MR W w7.heap.size ⟨mS, mT, mK, mL, false⟩ (.slice a5 n5 c5) (w7.alloc (.cells #[.int .i64 mS, .int .i64 mT, .int .i64 mK, .slice a5 n5 c5, .bool false] 28))) := Lib.hid ⟨RsS.new _ _ _ _ _ _ _, ho5.rd.below (b1 _), bal (bgo HV.out.bel hb7) _⟩; clear ho5 hb7 HM p0 p1 p2 p3 p4 r0 r1 r2 r3 r4; obtain ⟨⟨p0, p1, p2, p3, p4⟩, -⟩ := V7.out.1)
                  | (go_at_call 24; (with_reducible refine (HRK.out _ _ V7.out.rdR).mono ?_); rintro r w8 ⟨rfl, hb8⟩; have V8 := Lib.hid (V7.out.go hb8); clear hb8 HRK p0 p1 p2 p3 p4; obtain ⟨⟨p0, p1, p2, p3, p4⟩, -⟩ := V8.out.1)
                  | (go_at_call 20; (with_reducible refine (HVL.out _ _ _ _ V8.out.lv).mono ?_); rintro r w9 ⟨rfl, hb9⟩; have B9 := Lib.hid (bgo V8.out.bel hb9); clear hb9 HVL p0 p1 p2 p3 p4)
                  | (go_at_call 11; (with_reducible refine (hkn _ B9.out).mono ?_); rintro r w10 ⟨rfl, hb10⟩; have B10 := Lib.hid (bgo B9.out hb10); clear hb10))
                go_ret
                exact ⟨rfl, B10.out⟩
  · rw [decide_eq_false hs] at hsh
    go_enter Tryd.func7, Tryd.ntmps7
    go_wp2_with (first
      | (go_at_call 10; (with_reducible refine (hsh _ (Below.refl _ _)).mono ?_); rintro e w' ⟨rfl, rfl⟩)
      | (go_at_call 11; (with_reducible refine (hkn _ (Below.refl _ _)).mono ?_); rintro e w2 ⟨rfl, hb2⟩; have B2 := Lib.hid hb2; clear hb2))
    go_ret
    exact ⟨rfl, B2.out⟩
  end Go.Proofs.YtdifilhfmbpalaaDoor
