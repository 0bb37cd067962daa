/- The walk of the law FrequentBounds. -/
import Derived.Test.YtmmdnomfpfcjiaaVtQ
import Derived.Test.YtmmdnomfpfcjiaaFqFnd
import Derived.Test.YtmmdnomfpfcjiaaFqMer
import Derived.Test.YtmmdnomfpfcjiaaMeetX
import Derived.Test.YtmmdnomfpfcjiaaOthI
import Derived.Deep.Cut
namespace Go.Proofs.Ytmmdnomfpfcjiaa
open Go.RowKit
set_option linter.unusedVariables false
set_option linter.unusedSimpArgs false
theorem mask12 (n : Int) : bits .and .i64 n 4095 = n % 4096 := i64_mask 12 (by decide) n
theorem sumC_take {L : List Ent} {k : Nat} (h : k < L.length) : sumC (L.take (k + 1)) = sumC (L.take k) + (L.getD k Ent.z).c := by
  induction L generalizing k with
  | nil => simp at h
  | cons x L ih =>
    cases k with
    | zero => simp [sumC]
    | succ k =>
      have := ih (k := k) (by simpa using h)
      simp only [List.take_succ_cons, sumC, List.getD_cons_succ] at this ⊢
      omega
theorem sumC_bd {L : List Ent} (h : GdE L) (k : Nat) : 0 ≤ sumC (L.take k) ∧ sumC (L.take k) ≤ sumC L := by
  have e : ∀ {M N : List Ent}, sumC (M ++ N) = sumC M + sumC N := by
    intro M N
    induction M with
    | nil => simp [sumC]
    | cons x M ih => simp only [List.cons_append, sumC, ih]; omega
  have e2 : sumC L = sumC (L.take k) + sumC (L.drop k) := by rw [← e, List.take_append_drop]
  have h1 := sumC_nn (L := L.take k) (fun x hx => h x (List.mem_of_mem_take hx))
  have h2 := sumC_nn (L := L.drop k) (fun x hx => h x (List.mem_of_mem_drop hx))
  omega
theorem Mg.len {S W : Int} {f : ByteArray → Int} {c : FQ} (h : Mg S f W c) : (c.L.length : Int) ≤ S := by
  have := h.val.len
  rw [h.hS] at this
  exact this
theorem Mg.wf {S W : Int} {f : ByteArray → Int} {c : FQ} (h : Mg S f W c) : WfQ c := OkQ.wf (.inl h.val)
theorem Mg.mer {S V W : Int} {f g : ByteArray → Int} {a b : FQ} (ha : Mg S f V a) (hb : Mg S g W b) (hw : V + W ≤ 1099511627776) : Mg S (fun k => f k + g k) (V + W) (merQ a b) ∧ merQE a b = 0 := by
  have he : merQE a b = 0 := by
    unfold merQE
    rw [if_neg (by rw [valQ_of ha.val]; simp), if_neg (by rw [valQ_of hb.val]; simp), if_neg (by rw [ha.hS, hb.hS]; simp)]
  refine ⟨?_, he⟩
  unfold merQ
  rw [if_neg (by rw [he]; simp)]
  exact ha.sum2 hb hw
set_option maxRecDepth 100000 in
set_option maxHeartbeats 4000000 in
theorem frequentBounds_walk (S : Int) (al : Option Addr) (ln cap : Nat) (z : List Int) (bl : Option Addr) (lm cbp : Nat) (y : List Int) (n : Int) (W : World) (wa : (Lit.int .i64 S).wf = true) (w0 : InRow .i64 W al ln cap z) (w1 : InRow .i64 W bl lm cbp y) (wn : (Lit.int .i64 n).wf = true) :
    Calls Try.prog 6 #[.int .i64 S, .slice al ln cap, .slice bl lm cbp, .int .i64 n] W fun e w' => e = .returned (.bool true) ∧ Below W.heap.size W w' := by
  have HR := Lib.hid (inRow_rdJ w0)
  have HQ := Lib.hid (inRow_rdJ w1)
  have hlen : (z.take ln).length = ln := by obtain ⟨h1, _⟩ := w0; simp; omega
  have hlem : (y.take lm).length = lm := by obtain ⟨h1, _⟩ := w1; simp; omega
  generalize z.take ln = L at *
  generalize y.take lm = M at *
  subst hlen hlem
  have hlL : (L.length : Int) ≤ 9223372036854775807 := by
    obtain ⟨_, _, _, _, h1, h2, _⟩ := HR.out
    unfold maxLen at h2
    omega
  have hlM : (M.length : Int) ≤ 9223372036854775807 := by
    obtain ⟨_, _, _, _, h1, h2, _⟩ := HQ.out
    unfold maxLen at h2
    omega
  have m1 := mask2 S
  have m2 := mask8 n
  have e0 : 0 ≤ S % 4 ∧ S % 4 ≤ 3 := by omega
  have e1 : 0 ≤ n % 256 ∧ n % 256 ≤ 255 := by omega
  have h3 := fun w => key_any (n % 256) w (by omega) (by omega)
  have hks := keyS_bd (n % 256)
  have HK := Lib.hid (show keyB (byt (keyS (n % 256))) = true by unfold keyB; rw [byt_len]; simp; omega)
  have HKs := Lib.hid (show (keyS (n % 256)).size ≤ maxLen by unfold maxLen; omega)
  generalize keyS (n % 256) = K at *
  generalize n % 256 = r at *
  have h1 := fun w => pnewQ_any (1 + S % 4) w
  have HS0 := Lib.hid (Mg.new (S := 1 + S % 4) (by omega) (by omega))
  have hE0 : newQE (1 + S % 4) = 0 := by unfold newQE; rw [if_neg (by omega)]
  have hQ0 : newQ (1 + S % 4) = ⟨1 + S % 4, 0, 0, [], false⟩ := by unfold newQ; rw [if_neg (by omega)]
  rw [hE0] at h1
  rw [← hQ0] at HS0
  obtain ⟨sz, hsz⟩ : ∃ sz, sz = 1 + S % 4 := ⟨_, rfl⟩
  have hz0 : 1 ≤ sz := by omega
  have hz1 : sz ≤ 4 := by omega
  rw [← hsz] at h1 HS0
  have HSZ := Lib.hid hsz
  clear hQ0
  generalize newQ sz = c0 at *
  generalize S % 4 = p at *
  obtain ⟨e00, e01⟩ := e0
  obtain ⟨e10, e11⟩ := e1
  clear wa wn w0 w1 hks hE0 hsz
  go_enter Try.func6, Try.ntmps6
  have hsz2 : 1 + p = sz := HSZ.out.symm
  go_wp2_with (first
    | (go_at_call 13; (with_reducible refine (h1 _).mono ?_); rintro e w3 ⟨v3, rfl, ⟨a3, n3, c3, rfl, ho3⟩, hb3⟩; have V3 := Lib.hid (VQ2.new V2a.out V2b.out hb3 ho3 ZZ.out); clear ho3 hb3 h1 V2a V2b)
    | (go_at_call 13; (with_reducible refine (h1 _).mono ?_); rintro e w2 ⟨v2, rfl, ⟨a2, n2, c2, rfl, ho2⟩, hb2⟩; have ZZ := Lib.hid hb2.size; have V2a := Lib.hid (VtQ.new ho2); have V2b := Lib.hid (bal hb2 (.cells #[.int .i64 c0.S, .int .i64 c0.T, .int .i64 c0.K, .slice a2 n2 c2, .bool c0.s] 25)); clear ho2 hb2)
    | (go_at_call 25; (with_reducible refine (h3 _).mono ?_); rintro e w4 ⟨rfl, hb4⟩; have V4 := Lib.hid (V3.out.go hb4); clear h3 hb4 V3))
  go_loopw [11, 15, 16, 17, 18] (fun e o t i _ wr => ∃ k : Nat, k ≤ L.length ∧ k ≤ 12 ∧ e = .int .i64 0 ∧ i = .int .i64 (k : Int) ∧ ∃ (c : FQ) (a : Option Addr) (n cap : Nat) (f : ByteArray → Int) (A : Int), o = .int .i64 (f K) ∧ t = .int .i64 A ∧ Hid (Mg sz f A c ∧ A ≤ 4294967295 * k ∧ VQ2 W w2.heap.size c (.slice a n cap) w3.heap.size c0 (.slice a3 n3 c3) wr)) (fun _ _ _ i _ _ => 12 - (intOf i).toNat)
  case atStart => exact ⟨0, by omega, by omega, rfl, rfl, c0, a2, n2, c2, _, 0, rfl, rfl, Lib.hid ⟨HS0.out, by omega, V4.out⟩⟩
  case round =>
    clear V4
    obtain ⟨k, hk, hk12, rfl, rfl, c, a, n, cap, f, A, rfl, rfl, HI⟩ := hrel
    by_cases hgo : k < L.length ∧ k < 12
    · obtain ⟨hlt, hlt12⟩ := hgo
      have mz := mask12 (L.getD k 0)
      have hit := fun w => bitem_any (L.getD k 0 % 4096) w (by omega) (by omega)
      have hks := keyS_bd (L.getD k 0 % 4096)
      have hwt := wtS_bd (L.getD k 0 % 4096)
      have hsp := HI.out.1
      have hAk := HI.out.2.1
      obtain ⟨hs2, hi2⟩ := hsp.ins (itemS (L.getD k 0 % 4096)) (by omega)
      have hbd := hsp.wf
      have hw0 := hsp.w
      have hcl := hsp.len
      have hKz : (keyS (L.getD k 0 % 4096)).size ≤ maxLen := by unfold maxLen; omega
      have hz := HR.out.at_ k
      obtain ⟨_, a6, cap6, he6, _, _, hc6⟩ := HR.out.below HI.out.2.2.bel
      simp only [Value.slice.injEq, true_and] at he6
      obtain ⟨rfl, rfl⟩ := he6
      obtain ⟨b6, off6, rfl, hb6, hcell6⟩ := hc6 (by omega)
      have hcc6 := hcell6 k hlt
      have hlI : (k : Int) < (L.length : Int) := by omega
      have h12I : (k : Int) < 12 := by omega
      clear hcell6 hc6 hz hks
      generalize L.getD k 0 = y0 at *
      generalize y0 % 4096 = j at *
      generalize keyS j = K1 at *
      generalize wtS j = x at *
      have HIN := Lib.hid (fun (w : World) (v : Value) (hv : RdQ c v w) => pinsQ_any c K1 x v w hv hbd (by omega) (by omega) hKz (by omega))
      have HS2 := Lib.hid hs2
      rw [hi2] at HIN
      obtain ⟨e, he⟩ : ∃ e, e = insQ c K1 x := ⟨_, rfl⟩
      rw [← he] at HS2
      rw [← he] at HIN
      have HVv := Lib.hid HI.out.2.2
      have qa : IntKind.i64.wrap (A + x) = A + x := by rw [IntKind.wrap_i64]; omega
      have qa2 : wrap64 (A + x) = A + x := by unfold wrap64; omega
      have HAA : Hid (A + x ≤ 4294967295 * ((k + 1 : Nat) : Int)) := Lib.hid (by omega)
      have hfK := hsp.any K
      have qo : IntKind.i64.wrap (f K + x) = f K + x := by rw [IntKind.wrap_i64]; omega
      have qo2 : wrap64 (f K + x) = f K + x := by unfold wrap64; omega
      clear hsp hs2 hi2 hbd hcl hKz hfK he hAk hw0
      generalize hbq : (K1.toList == K.toList) = bq at *
      have HBQ := Lib.hid hbq
      obtain ⟨⟨p0, p1, p2, p3, p4⟩, -⟩ := HVv.out.one.cells
      cases bq
      all_goals
        go_wp2_with (first
          | (go_at_call 10; (with_reducible refine (hit _).mono ?_); rintro r w5 ⟨rfl, hb5⟩; have V5 := Lib.hid ((HVv.out.go hb5).al (.cells #[.string K1, .int .i64 x] 29)); have T5 := Lib.hid (Two.new w5 K1 x 29); have zz5 := Lib.hid (Nat.lt_of_lt_of_le HVv.out.one.lt hb5.size); clear hit hb5 p0 p1 p2 p3 p4 HVv; obtain ⟨⟨p0, p1, p2, p3, p4⟩, -⟩ := V5.out.one.cells)
          | (go_at_call 11; (with_reducible refine (HIN.out _ _ V5.out.one.rq).mono ?_); rintro r w6 ⟨u, rfl, ⟨a7, n7, c7, rfl, ho7⟩, hb7⟩; have V6 := Lib.hid (V5.out.go hb7); have T6 := Lib.hid (T5.out.below hb7); have O6 := Lib.hid ho7; (have ne1 : ¬ w5.heap.size = w2.heap.size := by have := zz5.out; omega); (have ne2 : ¬ w2.heap.size = w5.heap.size := by omega); clear HIN ho7 hb7 p0 p1 p2 p3 p4 V5 T5; obtain ⟨⟨p0, p1, p2, p3, p4⟩, f0, f1, f2, f3, f4⟩ := V6.out.one.cells; obtain ⟨t0, t1, -⟩ := T6.out))
      all_goals
        exact ⟨⟨k + 1, by omega, by omega, rfl, by go_num, e, a7, n7, c7, addW f K1 x, A + x, by unfold addW sameK; rw [HBQ.out]; simp, rfl, Lib.hid ⟨HS2.out, HAA.out, V6.out.put1 O6.out⟩⟩, by simp [intOf]; omega⟩
    · go_upto_region 7 with (fail)
      refine wp_meetU 44 12 (fun us wx => wx = wr ∧ us[11]? = some (.bool false)) ?_ ?_
      · intro G hG
        have hgo2 : ¬ (k : Int) < (L.length : Int) ∨ ((k : Int) < (L.length : Int) ∧ ¬ (k : Int) < 12) := by omega
        rcases hgo2 with hg1 | ⟨hg1, hg2⟩
        all_goals
          go_wp2
          exact hG _ _ [_, _, _, _, _, _, _, _, _, _, _, _] ⟨rfl, rfl⟩ ⟨rfl, rfl⟩
      intro aX wX us hoff hX
      obtain ⟨hus, rfl⟩ := hoff
      obtain ⟨rfl, hX⟩ := hX
      match us, hus with
      | [x0, x1, x2, x3, x4, x5, x6, x7, x8, x9, x10, x11], _ =>
        simp only [List.getElem?_cons_succ, List.getElem?_cons_zero, Option.some.injEq] at hX
        subst hX
        simp only [List.take_succ_cons, List.take_zero, List.drop_succ_cons, List.drop_zero, List.cons_append, List.nil_append]
        have HC := Lib.hid HI.out.1
        have HA := Lib.hid (show A ≤ 4294967295 * 12 by have := HI.out.2.1; omega)
        have HV := Lib.hid HI.out.2.2
        have hA0 := HI.out.1.w
        have hA1 := HA.out
        have hfK1 : 0 ≤ f K ∧ f K ≤ A := HC.out.any K
        clear HI hgo hk hk12
        go_wp2
        go_loopw [13, 15, 16, 19, 20] (fun e o t i _ wr => ∃ k : Nat, k ≤ M.length ∧ k ≤ 12 ∧ e = .int .i64 0 ∧ i = .int .i64 (k : Int) ∧ ∃ (d : FQ) (a2 : Option Addr) (n2 cap2 : Nat) (g : ByteArray → Int) (B : Int), o = .int .i64 (f K + g K) ∧ t = .int .i64 (A + B) ∧ Hid (Mg sz g B d ∧ B ≤ 4294967295 * k ∧ VQ2 W w2.heap.size c (.slice a n cap) w3.heap.size d (.slice a2 n2 cap2) wr)) (fun _ _ _ i _ _ => 12 - (intOf i).toNat)
        case atStart => exact ⟨0, by omega, by omega, rfl, rfl, c0, a3, n3, c3, _, 0, by rw [Int.add_zero], by rw [Int.add_zero], Lib.hid ⟨HS0.out, by omega, HV.out⟩⟩
        case round =>
          clear HV
          obtain ⟨k, hk, hk12, rfl, rfl, d, a2, n2, cap2, g, B, rfl, rfl, HI⟩ := hrel
          by_cases hgo : k < M.length ∧ k < 12
          · obtain ⟨hlt, hlt12⟩ := hgo
            have mz := mask12 (M.getD k 0)
            have hit := fun w => bitem_any (M.getD k 0 % 4096) w (by omega) (by omega)
            have hks := keyS_bd (M.getD k 0 % 4096)
            have hwt := wtS_bd (M.getD k 0 % 4096)
            have hsp := HI.out.1
            have hAk := HI.out.2.1
            obtain ⟨hs2, hi2⟩ := hsp.ins (itemS (M.getD k 0 % 4096)) (by omega)
            have hbd := hsp.wf
            have hw0 := hsp.w
            have hcl := hsp.len
            have hKz : (keyS (M.getD k 0 % 4096)).size ≤ maxLen := by unfold maxLen; omega
            have hz := HQ.out.at_ k
            obtain ⟨_, a6, cap6, he6, _, _, hc6⟩ := HQ.out.below HI.out.2.2.bel
            simp only [Value.slice.injEq, true_and] at he6
            obtain ⟨rfl, rfl⟩ := he6
            obtain ⟨b6, off6, rfl, hb6, hcell6⟩ := hc6 (by omega)
            have hcc6 := hcell6 k hlt
            have hlI : (k : Int) < (M.length : Int) := by omega
            have h12I : (k : Int) < 12 := by omega
            clear hcell6 hc6 hz hks
            generalize M.getD k 0 = y0 at *
            generalize y0 % 4096 = j at *
            generalize keyS j = K1 at *
            generalize wtS j = x at *
            have HIN := Lib.hid (fun (w : World) (v : Value) (hv : RdQ d v w) => pinsQ_any d K1 x v w hv hbd (by omega) (by omega) hKz (by omega))
            have HS2 := Lib.hid hs2
            rw [hi2] at HIN
            obtain ⟨e, he⟩ : ∃ e, e = insQ d K1 x := ⟨_, rfl⟩
            rw [← he] at HS2
            rw [← he] at HIN
            have HVv := Lib.hid HI.out.2.2
            have qa : IntKind.i64.wrap ((A + B) + x) = (A + B) + x := by rw [IntKind.wrap_i64]; omega
            have qa2 : wrap64 ((A + B) + x) = (A + B) + x := by unfold wrap64; omega
            have HAA : Hid (B + x ≤ 4294967295 * ((k + 1 : Nat) : Int)) := Lib.hid (by omega)
            have hfK := hsp.any K
            have qo : IntKind.i64.wrap ((f K + g K) + x) = (f K + g K) + x := by rw [IntKind.wrap_i64]; omega
            have qo2 : wrap64 ((f K + g K) + x) = (f K + g K) + x := by unfold wrap64; omega
            clear hsp hs2 hi2 hbd hcl hKz hfK he hAk hw0
            generalize hbq : (K1.toList == K.toList) = bq at *
            have HBQ := Lib.hid hbq
            obtain ⟨⟨p0, p1, p2, p3, p4⟩, -⟩ := HVv.out.two.cells
            cases bq
            all_goals
              go_wp2_with (first
                | (go_at_call 10; (with_reducible refine (hit _).mono ?_); rintro r w5 ⟨rfl, hb5⟩; have V5 := Lib.hid ((HVv.out.go hb5).al (.cells #[.string K1, .int .i64 x] 29)); have T5 := Lib.hid (Two.new w5 K1 x 29); have zz5 := Lib.hid (Nat.lt_of_lt_of_le HVv.out.two.lt hb5.size); clear hit hb5 p0 p1 p2 p3 p4 HVv; obtain ⟨⟨p0, p1, p2, p3, p4⟩, -⟩ := V5.out.two.cells)
                | (go_at_call 11; (with_reducible refine (HIN.out _ _ V5.out.two.rq).mono ?_); rintro r w6 ⟨u, rfl, ⟨a7, n7, c7, rfl, ho7⟩, hb7⟩; have V6 := Lib.hid (V5.out.go hb7); have T6 := Lib.hid (T5.out.below hb7); have O6 := Lib.hid ho7; (have ne1 : ¬ w5.heap.size = w3.heap.size := by have := zz5.out; omega); (have ne2 : ¬ w3.heap.size = w5.heap.size := by omega); clear HIN ho7 hb7 p0 p1 p2 p3 p4 V5 T5; obtain ⟨⟨p0, p1, p2, p3, p4⟩, f0, f1, f2, f3, f4⟩ := V6.out.two.cells; obtain ⟨t0, t1, -⟩ := T6.out))
            all_goals
              exact ⟨⟨k + 1, by omega, by omega, rfl, by go_num, e, a7, n7, c7, addW g K1 x, B + x, by unfold addW sameK; rw [HBQ.out]; simp [Int.add_assoc], by rw [Int.add_assoc], Lib.hid ⟨HS2.out, HAA.out, V6.out.put2 O6.out⟩⟩, by simp [intOf]; omega⟩
          · go_upto_region 15 with (fail)
            refine wp_meetU 82 12 (fun us wx => wx = wr ∧ us[11]? = some (.bool false)) ?_ ?_
            · intro G hG
              have hgo2 : ¬ (k : Int) < (M.length : Int) ∨ ((k : Int) < (M.length : Int) ∧ ¬ (k : Int) < 12) := by omega
              rcases hgo2 with hg1 | ⟨hg1, hg2⟩
              all_goals
                go_wp2
                exact hG _ _ [_, _, _, _, _, _, _, _, _, _, _, _] ⟨rfl, rfl⟩ ⟨rfl, rfl⟩
            intro aX wX us hoff hX
            obtain ⟨hus, rfl⟩ := hoff
            obtain ⟨rfl, hX⟩ := hX
            match us, hus with
            | [x0, x1, x2, x3, x4, x5, x6, x7, x8, x9, x10, x11], _ =>
              simp only [List.getElem?_cons_succ, List.getElem?_cons_zero, Option.some.injEq] at hX
              subst hX
              simp only [List.take_succ_cons, List.take_zero, List.drop_succ_cons, List.drop_zero, List.cons_append, List.nil_append]
              have HD := Lib.hid HI.out.1
              have hB : B ≤ 4294967295 * 12 := by have := HI.out.2.1; omega
              have hB0 := HI.out.1.w
              have HV := Lib.hid HI.out.2.2
              clear HI hgo hk hk12
              obtain ⟨hsm, hme⟩ := HC.out.mer HD.out (by omega)
              have hcb := HC.out.wf
              have hdb := HD.out.wf
              have hcl := HC.out.len
              have hdl := HD.out.len
              have HM := Lib.hid (fun (w : World) (v u : Value) (h1 : RdQ c v w) (h2 : RdQ d u w) => pmerQ_any c d v u w h1 h2 (by omega) hcb hdb)
              rw [hme] at HM
              obtain ⟨m, hmm⟩ : ∃ m, m = merQ c d := ⟨_, rfl⟩
              rw [← hmm] at hsm HM
              clear hme hmm hcb hdb
              have HFD := Lib.hid (fun (v : Value) (w : World) (hv : RdQ m v w) => pfindQ_any m K v w hv hsm.val HK.out HKs.out)
              obtain ⟨mS, mT, mK, mL, ms⟩ := m
              obtain rfl : mS = sz := hsm.hS
              obtain rfl : mT = A + B := hsm.tot
              obtain rfl : ms = false := hsm.sat
              have hlo := hsm.lo K
              have hhi := hsm.hi K
              have hsum := hsm.sum
              have hml := hsm.len
              have hmc := hsm.val.gd
              have hk0 := hsm.val.k0
              have hkle := hsm.kle
              dsimp only at hlo hhi hsum hml hmc hk0 hkle HFD
              have HSUM := Lib.hid (fun k => sumC_bd hmc k)
              have HSUS := Lib.hid (fun k (h : k < mL.length) => sumC_take h)
              have hmn := sumC_nn hmc
              have hcn := (cntK_nn hmc K).1
              have hcn2 := (cntK_nn hmc K).2
              generalize cntK mL K = x at *
              generalize hasK mL K = fb at *
              obtain ⟨O, hO⟩ : ∃ O, O = f K + g K := ⟨_, rfl⟩
              rw [← hO] at hlo hhi ⊢
              clear hsm hmc hO HC HD hcl hdl
              have q1 : IntKind.i64.wrap (x + mK) = x + mK := by rw [IntKind.wrap_i64]; omega
              have q2 : wrap64 (x + mK) = x + mK := by unfold wrap64; omega
              have q3 : ¬ O < x := by omega
              have q4 : ¬ x + mK < O := by omega
              have hxs : 0 ≤ (mS + 1) * mK := Int.mul_nonneg (by omega) hk0
              have q5 : IntKind.i64.wrap ((mS + 1) * mK) = (mS + 1) * mK := by rw [IntKind.wrap_i64]; omega
              have q6 : wrap64 ((mS + 1) * mK) = (mS + 1) * mK := by unfold wrap64; omega
              have q7 : IntKind.i64.wrap (mS + 1) = mS + 1 := by rw [IntKind.wrap_i64]; omega
              have q8 : wrap64 (mS + 1) = mS + 1 := by unfold wrap64; omega
              obtain ⟨⟨p0, p1, p2, p3, p4⟩, -⟩ := HV.out.one.cells
              obtain ⟨⟨r0, r1, r2, r3, r4⟩, -⟩ := HV.out.two.cells
              go_upto_region 24 with (first
                | (go_at_call 19; (with_reducible refine (HM.out _ _ _ HV.out.one.rq HV.out.two.rq).mono ?_); rintro r w7 ⟨u, rfl, ⟨a5, n5, c5, rfl, ho5⟩, hb7⟩; have S7 := Lib.hid (SkQ.new ho5.rd); have B7 := Lib.hid (bal (bgo HV.out.bel hb7) (.cells #[.int .i64 mS, .int .i64 (A + B), .int .i64 mK, .slice a5 n5 c5, .bool false] 25)); clear ho5 hb7 HM p0 p1 p2 p3 p4 r0 r1 r2 r3 r4; obtain ⟨p0, p1, p2, p3, p4⟩ := S7.out.cells)
                | (go_at_call 26; (with_reducible refine (HFD.out _ _ S7.out.rd).mono ?_); rintro r w8 ⟨rfl, hb8⟩; have S8 := Lib.hid ((S7.out.go hb8).alloc (.cells #[.string K, .int .i64 x, .int .i64 mK] 49)); have B8 := Lib.hid (bal (bgo B7.out hb8) (.cells #[.string K, .int .i64 x, .int .i64 mK] 49)); have A8 := Lib.hid (At3.new ⟨K, x, mK⟩ w8); clear hb8 HFD S7 B7 p0 p1 p2 p3 p4; obtain ⟨p0, p1, p2, p3, p4⟩ := S8.out.cells; obtain ⟨r0, r1, r2⟩ := A8.out.zero))
              generalize w8.alloc (.cells #[.string K, .int .i64 x, .int .i64 mK] 49) = wE at *
              go_wp2
              clear q1 q2 q3 q4
              go_loopw [26, 27] (fun s i wr => ∃ k : Nat, k ≤ mL.length ∧ s = .int .i64 ((mS + 1) * mK + sumC (mL.take k)) ∧ i = .int .i64 (k : Int) ∧ wr = wE) (fun _ i _ => mL.length - (intOf i).toNat)
              case atStart => exact ⟨0, by omega, by simp [sumC], rfl, rfl⟩
              case round =>
                obtain ⟨k, hk, rfl, rfl, rfl⟩ := hrel
                have hk0 := HSUM.out k
                have hk1 := HSUM.out (k + 1)
                obtain ⟨-, a6, cap6, he6, -, -, hc6⟩ := S8.out.rdE
                have hn5 : n5 = mL.length := by simp only [Value.slice.injEq] at he6; exact he6.2.1
                subst hn5
                simp only [Value.slice.injEq, true_and] at he6
                obtain ⟨rfl, rfl⟩ := he6
                generalize (mS + 1) * mK = Q0 at *
                by_cases hlt : k < mL.length
                · obtain ⟨b6, off6, rfl, hb6, hcell6⟩ := hc6 (by show 0 < mL.length; omega)
                  obtain ⟨c0, c1, c2⟩ := hcell6 k hlt
                  have hS := HSUS.out k hlt
                  have hlt2 : (k : Int) < (mL.length : Int) := by omega
                  have hl32 : (mL.length : Int) ≤ 4 := by omega
                  rw [hS] at hk1
                  have HS' := Lib.hid hS
                  clear hcell6 hc6 hS
                  dsimp only at c0 c1 c2
                  generalize mL.getD k Ent.z = X at *
                  generalize sumC (mL.take k) = Q at *
                  have q1 : IntKind.i64.wrap (Q0 + Q + X.c) = Q0 + Q + X.c := by rw [IntKind.wrap_i64]; omega
                  have q2 : wrap64 (Q0 + Q + X.c) = Q0 + Q + X.c := by unfold wrap64; omega
                  go_wp2
                  exact ⟨⟨k + 1, by omega, by rw [HS'.out, Int.add_assoc], by go_num, by first | trivial | rfl⟩, by simp [intOf]; omega⟩
                · obtain rfl : k = mL.length := by omega
                  rw [List.take_length] at *
                  have hlt2 : ¬ (mL.length : Int) < (mL.length : Int) := by omega
                  have hs2 : Q0 + sumC mL ≤ A + B := by omega
                  generalize sumC mL = Q at *
                  clear hc6
                  go_wp2_with (first
                    | (go_at_call 18; (with_reducible refine (knownQ_any _).mono ?_); rintro r w10 ⟨rfl, hb10⟩; have B10 := Lib.hid (bgo B8.out hb10); clear hb10))
                  go_ret
                  exact ⟨rfl, B10.out⟩
end Go.Proofs.Ytmmdnomfpfcjiaa
