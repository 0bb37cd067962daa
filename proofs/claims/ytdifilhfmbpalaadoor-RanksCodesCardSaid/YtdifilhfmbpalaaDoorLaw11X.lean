/- The walk of the law RanksExact. -/
import Derived.Test.YtdifilhfmbpalaaDoorRkZ
import Derived.Test.YtdifilhfmbpalaaDoorRdIn
import Derived.Test.YtdifilhfmbpalaaDoorOthI
import Derived.Test.YtdifilhfmbpalaaDoorMeetX
import Derived.Deep.Cut
namespace Go.Proofs.YtdifilhfmbpalaaDoor
open Go.RowKit
set_option linter.unusedVariables false
set_option linter.unusedSimpArgs false
set_option maxRecDepth 100000 in
theorem short_any (Z : List Int) (v : Value) (w : World) (hZ : Rd Z v w) :
    Calls Tryd.prog 10 #[v] w fun e w' => e = .returned (.bool (decide (Z.length ≤ 100))) ∧ w = w' := by
  obtain ⟨-, a, c, rfl, -⟩ := hZ
  by_cases h : Z.length ≤ 100
  · have h2 : (Z.length : Int) ≤ 100 := by omega
    rw [decide_eq_true h]
    go_enter Tryd.func10, Tryd.ntmps10
    go_wp2
    go_ret
    exact ⟨by simp [*], rfl⟩
  · have h2 : ¬ (Z.length : Int) ≤ 100 := by omega
    rw [decide_eq_false h]
    go_enter Tryd.func10, Tryd.ntmps10
    go_wp2
    go_ret
    exact ⟨by simp [*], rfl⟩
/-- A law at coins that are too many: its own check alone. -/
theorem mask8r (n : Int) : bits .and .i64 n 255 = n % 256 := i64_mask 8 (by decide) n
theorem mask16r (n : Int) : bits .and .i64 n 65535 = n % 65536 := i64_mask 16 (by decide) n
theorem aloneL_one {x : ByteArray} {r : Nat} : ∀ l ∈ aloneL x r, l.length ≤ 1 := by
  intro l hl
  unfold aloneL at hl
  obtain ⟨i, -, rfl⟩ := List.mem_map.1 hl
  split <;> simp
/-- Nothing was compacted in k insertions. -/
structure Ex (K : ByteArray) (k : Nat) (c : RK) (D : Nat) : Prop where
  kn : Kn K c D
  hS : c.S = 32
  hK : c.K = 0
  tot : c.T ≤ 4294967295 * (k : Int)
  rows : ∀ l ∈ c.L, l.length ≤ k
theorem Ex.new (K : ByteArray) : Ex K 0 ⟨32, 0, 0, [], false⟩ 0 := ⟨Kn.new (by decide) K, rfl, rfl, by simp, by simp⟩
theorem Ex.step {K x : ByteArray} {k : Nat} {c : RK} {D r : Nat} (h : Ex K k c D) (hk : k < 20) (hi : itemE (byt x) (r : Int) = 0) (Z : List Int) :
    Ex K (k + 1) (insR c x (r : Int) Z 0).1 (D + if lessK K x = true then 0 else r) ∧ (insR c x (r : Int) Z 0).2 = 0 ∧ insRE c x (r : Int) 0 = 0 := by
  have hir := itemR hi
  have ht := h.tot
  have hins := h.kn.ins hir.1 hir.2.1 hir.2.2 (by omega) Z 0 (by decide)
  obtain ⟨h1, h2, h3, h4, h5⟩ := hins
  have ha := (insR_at (Z := Z) (a := 0) h.kn.v hi (by decide)).1
  have hF : aF c.T (oneR c.S x (r : Int)).T = false := by
    have := h.kn.v.t0
    unfold aF satF nat0
    rw [decide_eq_false_iff_not]
    show ¬ (1099511627776 : Int) < max c.T 0 + max (r : Int) 0
    omega
  have hrow : ∀ l ∈ joinL c.L (aloneL x (r : Int).toNat), l.length ≤ k + 1 := joinL_rows h.rows aloneL_one
  have hst := stl_none (S := c.S) (C := Z) 0 (joinL c.L (aloneL x (r : Int).toNat)) (aS c.K 0) 0 (fun l hl => by have := hrow l hl; rw [h.hS]; omega)
  have hsk : sumK c (oneR c.S x (r : Int)) Z 0 = (⟨c.S, aS c.T (r : Int), aS c.K 0, (joinL c.L (aloneL x (r : Int).toNat)).map sortK, c.s || false⟩, 0) := by
    unfold sumK
    rw [if_neg (by rw [hF]; simp)]
    show (RK.mk c.S (aS c.T (r : Int)) (stl c.S Z 0 (joinL c.L (aloneL x (r : Int).toNat)) (aS c.K 0) 0).2.1 (stl c.S Z 0 (joinL c.L (aloneL x (r : Int).toNat)) (aS c.K 0) 0).1 (c.s || false), (stl c.S Z 0 (joinL c.L (aloneL x (r : Int).toNat)) (aS c.K 0) 0).2.2) = _
    rw [hst]
  refine ⟨⟨by simpa using h1, by rw [h4, h.hS], ?_, by rw [h2]; omega, ?_⟩, ?_, h5⟩
  · rw [ha, hsk]
    show aS c.K 0 = 0
    rw [h.hK]
    decide
  · rw [ha, hsk]
    intro l hl
    obtain ⟨m, hm, rfl⟩ := List.mem_map.1 hl
    rw [sortK_len]
    exact hrow m hm
  · rw [ha, hsk]
theorem Ex.rank {K : ByteArray} {k : Nat} {c : RK} {D : Nat} (h : Ex K k c D) (hK : keyB (byt K) = true) : rkR c K = (D : Int) ∧ rkRE c K = 0 := by
  unfold rkR rkRE
  rw [if_pos (valR_of h.kn.v), if_pos hK, if_pos (valR_of h.kn.v), if_pos hK]
  have h1 := h.kn.up
  have h2 := h.kn.dn
  rw [h.hK] at h1 h2
  exact ⟨by omega, rfl⟩
theorem wt_nat (j : Int) : ∃ r : Nat, wtS j = (r : Int) := ⟨(wtS j).toNat, by have := wtS_bd j; omega⟩
set_option maxRecDepth 100000 in
set_option maxHeartbeats 4000000 in
theorem ranksExact_walk (al : Option Addr) (ln cap : Nat) (z : List Int) (bl : Option Addr) (lm cbp : Nat) (y : List Int) (n : Int) (W : World) (w0 : InRow .i64 W al ln cap z) (w1 : InRow .u8 W bl lm cbp y) (wn : (Lit.int .i64 n).wf = true) (ht : TabP W) :
    Calls Tryd.prog 9 #[.slice al ln cap, .slice bl lm cbp, .int .i64 n] W fun e w' => e = .returned (.bool true) ∧ Below W.heap.size W w' := by
  have HR := Lib.hid (inRow_rdJ w0)
  have HZ := Lib.hid (inRow_rd w1)
  have hlen : (z.take ln).length = ln := by obtain ⟨h1, _⟩ := w0; simp; omega
  have HT := Lib.hid ht
  generalize z.take ln = L at *
  generalize y.take lm = Z at *
  subst hlen
  have hlL : (L.length : Int) ≤ 9223372036854775807 := by
    obtain ⟨_, _, _, _, h1, h2, _⟩ := HR.out
    unfold maxLen at h2
    omega
  have m2 := mask8r n
  have hsh := fun w (hb : Below W.heap.size W w) => short_any Z _ w (HZ.out.below hb)
  have h3 := fun w => key_any (n % 256) w (by omega) (by omega)
  have hks := keyS_bd (n % 256)
  have HK := Lib.hid (show keyB (byt (keyS (n % 256))) = true by unfold keyB; rw [byt_len]; simp; omega)
  have HKs := Lib.hid (show (keyS (n % 256)).size ≤ maxLen by unfold maxLen; omega)
  have hkn := fun w (hb : Below W.heap.size W w) => knownR_any w (HT.out.below hb)
  have e1 : 0 ≤ n % 256 ∧ n % 256 ≤ 255 := by omega
  obtain ⟨e10, e11⟩ := e1
  generalize keyS (n % 256) = K at *
  generalize n % 256 = r at *
  have h1 := fun w => pnewR_any 32 w
  rw [show newRE 32 = 0 by decide, show newR 32 = ⟨32, 0, 0, [], false⟩ from rfl] at h1
  have HS0 := Lib.hid (Ex.new K)
  generalize hc0 : (⟨32, 0, 0, [], false⟩ : RK) = c0 at *
  have HC0 := Lib.hid (show c0.L = [] by rw [← hc0])
  clear wn w0 w1 hks hc0 ht
  by_cases hs : Z.length ≤ 100
  · rw [decide_eq_true hs] at hsh
    go_enter Tryd.func9, Tryd.ntmps9
    go_wp2_with (first
      | (go_at_call 10; (with_reducible refine (hsh _ (Below.refl _ _)).mono ?_); rintro e w' ⟨rfl, rfl⟩)
      | (go_at_call 17; (with_reducible refine (h1 _).mono ?_); rintro e w2 ⟨v2, rfl, ⟨a2, n2, c2, rfl, ho2⟩, hb2⟩; have V2 := Lib.hid (VK1.new ho2 (.inl HC0.out) hb2); clear ho2 hb2 h1)
      | (go_at_call 25; (with_reducible refine (h3 _).mono ?_); rintro e w4 ⟨rfl, hb4⟩; have V4 := Lib.hid (V2.out.go hb4); clear h3 hb4 V2))
    go_loopw [8, 10, 11, 12, 13] (fun e o t i _ wr => ∃ k : Nat, k ≤ L.length ∧ k ≤ 20 ∧ e = .int .i64 0 ∧ t = .int .i64 0 ∧ i = .int .i64 (k : Int) ∧ ∃ (c : RK) (a : Option Addr) (n cap D : Nat), o = .int .i64 (D : Int) ∧ Hid (Ex K k c D ∧ VK1 W (w2.heap.size + 1) w2.heap.size c (.slice a n cap) wr)) (fun _ _ _ i _ _ => 20 - (intOf i).toNat)
    case atStart => exact ⟨0, by omega, by omega, rfl, rfl, rfl, c0, a2, n2, c2, 0, rfl, Lib.hid ⟨HS0.out, V4.out⟩⟩
    case round =>
      clear V4
      obtain ⟨k, hk, hk20, rfl, rfl, rfl, c, a, n, cap, D, rfl, HI⟩ := hrel
      by_cases hgo : k < L.length ∧ k < 20
      · obtain ⟨hlt, hlt20⟩ := hgo
        have mz := mask16r (L.getD k 0)
        have hit := fun w => bitem_any (L.getD k 0 % 65536) w (by omega) (by omega)
        have hks := keyS_bd (L.getD k 0 % 65536)
        have hit2 := itemS (L.getD k 0 % 65536)
        obtain ⟨q, hq⟩ := wt_nat (L.getD k 0 % 65536)
        have hwt := wtS_bd (L.getD k 0 % 65536)
        rw [hq] at hit hwt hit2
        have hsp := HI.out.1
        have hD := hsp.kn.d
        have hT := hsp.tot
        obtain ⟨hs2, hi2, hi3⟩ := hsp.step hlt20 hit2 Z
        have hKz : (keyS (L.getD k 0 % 65536)).size ≤ maxLen := by unfold maxLen; omega
        obtain ⟨_, a6, cap6, he6, _, _, hc6⟩ := HR.out.below HI.out.2.bel
        simp only [Value.slice.injEq, true_and] at he6
        obtain ⟨rfl, rfl⟩ := he6
        obtain ⟨b6, off6, rfl, hb6, hcell6⟩ := hc6 (by omega)
        have hcc6 := hcell6 k hlt
        have hlI : (k : Int) < (L.length : Int) := by omega
        have h20I : (k : Int) < 20 := by omega
        clear hcell6 hc6 hks hq hit2
        generalize L.getD k 0 = y0 at *
        generalize y0 % 65536 = j at *
        generalize keyS j = K1 at *
        have HIN := Lib.hid (fun (w : World) (v : Value) (hv : RdR c v w) (hb : Below W.heap.size W w) => pinsR_any c K1 (q : Int) v _ Z 0 w hv hsp.kn.v.lok (HZ.out.below hb) (by omega) (by omega) hKz (HT.out.below hb))
        rw [hi2, hi3] at HIN
        have HS2 := Lib.hid hs2
        generalize (insR c K1 (q : Int) Z 0).1 = e at *
        have HVv := Lib.hid HI.out.2
        have qa : IntKind.i64.wrap ((D : Int) + (q : Int)) = (D : Int) + (q : Int) := by rw [IntKind.wrap_i64]; omega
        have qa2 : wrap64 ((D : Int) + (q : Int)) = (D : Int) + (q : Int) := by unfold wrap64; omega
        have hle := leq_eq K K1
        clear hsp hs2 hi2 hi3 hKz hD hT
        obtain ⟨⟨p0, p1, p2, p3, p4⟩, -⟩ := HVv.out.one.cells
        cases hbq : lessK K K1
        all_goals
          rw [hbq] at hle HS2
        case' false => have hle2 : (Op.bytesLess K1.toList K.toList || K1.toList == K.toList) = true := hle
        case' true => have hle2 : (Op.bytesLess K1.toList K.toList || K1.toList == K.toList) = false := hle
        all_goals
          clear hle hbq
          go_wp2_with (first
            | (go_at_call 14; (with_reducible refine (hit _).mono ?_); rintro r w5 ⟨rfl, hb5⟩; have V5 := Lib.hid ((HVv.out.go hb5).al (.cells #[.string K1, .int .i64 (q : Int)] 32)); have T5 := Lib.hid (Two.new w5 K1 (q : Int) 32); have zz5 := Lib.hid (Nat.lt_of_lt_of_le HVv.out.one.lt hb5.size); clear hit hb5 p0 p1 p2 p3 p4 HVv; obtain ⟨⟨p0, p1, p2, p3, p4⟩, -⟩ := V5.out.one.cells)
            | (go_at_call 15; (with_reducible refine (HIN.out _ _ V5.out.one.rd V5.out.bel).mono ?_); rintro r w6 ⟨u, rfl, ⟨a7, n7, c7, rfl, ho7⟩, hb7⟩; have V6 := Lib.hid (V5.out.go hb7); have T6 := Lib.hid (T5.out.below hb7); have O6 := Lib.hid (ho7.mono V5.out.size); (have ne1 : ¬ w5.heap.size = w2.heap.size := by have := zz5.out; omega); (have ne2 : ¬ w2.heap.size = w5.heap.size := by omega); clear HIN ho7 hb7 p0 p1 p2 p3 p4 V5 T5; obtain ⟨⟨p0, p1, p2, p3, p4⟩, f0, f1, f2, f3, f4⟩ := V6.out.one.cells; obtain ⟨t0, t1, -⟩ := T6.out))
        · exact ⟨⟨k + 1, by omega, by omega, rfl, rfl, by go_num, e, a7, n7, c7, D, rfl, Lib.hid ⟨by have h := HS2.out; simpa using h, V6.out.put O6.out⟩⟩, by simp [intOf]; omega⟩
        · exact ⟨⟨k + 1, by omega, by omega, rfl, rfl, by go_num, e, a7, n7, c7, D + q, rfl, Lib.hid ⟨by have h := HS2.out; simpa using h, V6.out.put O6.out⟩⟩, by simp [intOf]; omega⟩
      · go_upto_region 7 with (fail)
        refine wp_meetU 27 12 (fun us wx => wx = wr ∧ us[11]? = some (.bool false)) ?_ ?_
        · intro G hG
          have hgo2 : ¬ (k : Int) < (L.length : Int) ∨ ((k : Int) < (L.length : Int) ∧ ¬ (k : Int) < 20) := by omega
          rcases hgo2 with hg1 | ⟨hg1, hg2⟩
          all_goals
            go_wp2
            exact hG _ _ [_, _, _, _, _, _, _, _, _, _, _, _] ⟨rfl, rfl⟩ ⟨rfl, rfl⟩
        intro aX wX us hoff hX
        obtain ⟨hus, rfl⟩ := hoff
        obtain ⟨rfl, hX⟩ := hX
        match us, hus with
        | [x0, x1, x2, x3, x4, x5, x6, x7, x8, x9, x10, x11], _ =>
          simp only [List.getElem?_cons_succ, List.getElem?_cons_zero, Option.some.injEq] at hX
          subst hX
          simp only [List.take_succ_cons, List.take_zero, List.drop_succ_cons, List.drop_zero, List.cons_append, List.nil_append]
          have HV := Lib.hid HI.out.2
          have hrk := HI.out.1.rank HK.out
          have hrv := Lib.hid (fun (v : Value) (w : World) (hv : RdR c v w) => prank_any c v K w hv HI.out.1.kn.v.lok HKs.out)
          rw [hrk.1, hrk.2] at hrv
          have HCK := Lib.hid HI.out.1.hK
          clear HI hgo hk hk20 hrk
          obtain ⟨⟨p0, p1, p2, p3, p4⟩, -⟩ := HV.out.one.cells
          go_wp2_with (first
            | (go_at_call 24; (with_reducible refine (hrv.out _ _ HV.out.one.rd).mono ?_); rintro r w8 ⟨rfl, hb8⟩; have V8 := Lib.hid (HV.out.go hb8); clear hb8 hrv p0 p1 p2 p3 p4; obtain ⟨⟨p0, p1, p2, p3, p4⟩, -⟩ := V8.out.one.cells; rw [HCK.out] at p2)
            | (go_at_call 11; (with_reducible refine (hkn _ V8.out.bel).mono ?_); rintro r w10 ⟨rfl, hb10⟩; have B10 := Lib.hid (bgo V8.out.bel hb10); clear hb10))
          go_ret
          exact ⟨rfl, B10.out⟩
  · rw [decide_eq_false hs] at hsh
    go_enter Tryd.func9, Tryd.ntmps9
    go_wp2_with (first
      | (go_at_call 10; (with_reducible refine (hsh _ (Below.refl _ _)).mono ?_); rintro e w' ⟨rfl, rfl⟩)
      | (go_at_call 11; (with_reducible refine (hkn _ (Below.refl _ _)).mono ?_); rintro e w2 ⟨rfl, hb2⟩; have B2 := Lib.hid hb2; clear hb2))
    go_ret
    exact ⟨rfl, B2.out⟩
end Go.Proofs.YtdifilhfmbpalaaDoor
