/- The walk of the law TopkBounds. -/
import Derived.Test.YtcmekpdgikploaaSpcM9
import Derived.Test.YtcmekpdgikploaaVt9
import Derived.Test.YtcmekpdgikploaaKnown9
import Derived.Test.YtcmekpdgikploaaSame9
import Derived.Test.YtcmekpdgikploaaPIns
import Derived.Test.YtcmekpdgikploaaPMerE
import Derived.Test.YtcmekpdgikploaaFind9
import Derived.Test.YtcmekpdgikploaaOthI
import Derived.Deep.Cut
namespace Go.Proofs.Ytcmekpdgikploaa
open Go.RowKit
set_option linter.unusedVariables false
set_option linter.unusedSimpArgs false
theorem mask12 (n : Int) : bits .and .i64 n 4095 = n % 4096 := i64_mask 12 (by decide) n
theorem sumC_take {L : List Ent} {k : Nat} (h : k < L.length) : sumC (L.take (k + 1)) = sumC (L.take k) + (L.getD k Ent.z).c := by
  rw [take_succE h, sumC_app]
  simp [sumC]
theorem sumC_bd {L : List Ent} (h : ∀ x ∈ L, 0 ≤ x.c) (k : Nat) : 0 ≤ sumC (L.take k) ∧ sumC (L.take k) ≤ sumC L := by
  have e : sumC L = sumC (L.take k) + sumC (L.drop k) := by rw [← sumC_app, List.take_append_drop]
  have h1 := sumC_ge (L := L.take k) (m := 0) (fun x hx => h x (List.mem_of_mem_take hx))
  have h2 := sumC_ge (L := L.drop k) (m := 0) (fun x hx => h x (List.mem_of_mem_drop hx))
  omega
set_option maxRecDepth 100000 in
set_option maxHeartbeats 4000000 in
theorem topkBounds_walk (S : Int) (al : Option Addr) (ln cap : Nat) (z : List Int) (bl : Option Addr) (lm cbp : Nat) (y : List Int) (n : Int) (W : World) (wa : (Lit.int .i64 S).wf = true) (w0 : InRow .i64 W al ln cap z) (w1 : InRow .i64 W bl lm cbp y) (wn : (Lit.int .i64 n).wf = true) :
    Calls Try.prog 6 #[.int .i64 S, .slice al ln cap, .slice bl lm cbp, .int .i64 n] W fun e w' => e = .returned (.bool true) ∧ Below W.heap.size W w' := by
  have HR := Lib.hid (inRow_rdJ w0)
  have HQ := Lib.hid (inRow_rdJ w1)
  have hlen : (z.take ln).length = ln := by obtain ⟨h1, _⟩ := w0; simp; omega
  have hlem : (y.take lm).length = lm := by obtain ⟨h1, _⟩ := w1; simp; omega
  generalize z.take ln = L at *
  generalize y.take lm = M at *
  subst hlen hlem
  have hlL : (L.length : Int) ≤ 9223372036854775807 := by
    obtain ⟨_, _, _, _, h1, h2, _⟩ := HR.out
    unfold maxLen at h2
    omega
  have hlM : (M.length : Int) ≤ 9223372036854775807 := by
    obtain ⟨_, _, _, _, h1, h2, _⟩ := HQ.out
    unfold maxLen at h2
    omega
  have m1 := mask2 S
  have m2 := mask8 n
  have e0 : 0 ≤ S % 4 ∧ S % 4 ≤ 3 := by omega
  have e1 : 0 ≤ n % 256 ∧ n % 256 ≤ 255 := by omega
  have h3 := fun w => key_any (n % 256) w (by omega) (by omega)
  have hks := keyS_bd (n % 256)
  have HK := Lib.hid (show keyB (byt (keyS (n % 256))) = true by unfold keyB; rw [byt_len]; simp; omega)
  have HKs := Lib.hid (show (keyS (n % 256)).size ≤ maxLen by unfold maxLen; omega)
  generalize keyS (n % 256) = K at *
  generalize n % 256 = r at *
  have h1 := fun w => pnew_any (1 + S % 4) w (by omega) (by omega)
  have HS0 := Lib.hid (Spc.new (S := 1 + S % 4) (by omega) (by omega))
  have hE0 : newTE (1 + S % 4) = 0 := by unfold newTE; rw [if_neg (by omega)]
  rw [hE0] at h1
  obtain ⟨sz, hsz⟩ : ∃ sz, sz = 1 + S % 4 := ⟨_, rfl⟩
  have hz0 : 1 ≤ sz := by omega
  have hz1 : sz ≤ 4 := by omega
  rw [← hsz] at h1 HS0
  have HSZ := Lib.hid hsz
  generalize newT sz = c0 at *
  generalize S % 4 = p at *
  obtain ⟨e00, e01⟩ := e0
  obtain ⟨e10, e11⟩ := e1
  clear wa wn w0 w1 hks hE0 hsz
  go_enter Try.func6, Try.ntmps6
  have hsz2 : 1 + p = sz := HSZ.out.symm
  go_wp2_with (first
    | (go_at_call 14; (with_reducible refine (h1 _).mono ?_); rintro e w3 ⟨v3, rfl, ⟨a3, n3, c3, rfl, ho3⟩, hb3⟩; have V3 := Lib.hid (V2.new V2a.out V2b.out hb3 ho3 ZZ.out); clear ho3 hb3 h1 V2a V2b)
    | (go_at_call 14; (with_reducible refine (h1 _).mono ?_); rintro e w2 ⟨v2, rfl, ⟨a2, n2, c2, rfl, ho2⟩, hb2⟩; have ZZ := Lib.hid hb2.size; have V2a := Lib.hid (Vt.new ho2); have V2b := Lib.hid (bal hb2 (.cells #[.int .i64 c0.S, .int .i64 c0.T, .slice a2 n2 c2, .bool c0.s] 25)); clear ho2 hb2)
    | (go_at_call 26; (with_reducible refine (h3 _).mono ?_); rintro e w4 ⟨rfl, hb4⟩; have V4 := Lib.hid (V3.out.go hb4); clear h3 hb4 V3))
  go_loopw [11, 15, 16, 17, 18] (fun e o t i _ wr => ∃ k : Nat, k ≤ L.length ∧ k ≤ 12 ∧ e = .int .i64 0 ∧ i = .int .i64 (k : Int) ∧ ∃ (c : TP) (a : Option Addr) (n cap : Nat) (f : ByteArray → Int) (A : Int), o = .int .i64 (f K) ∧ t = .int .i64 A ∧ Hid (Spc sz f A c ∧ A ≤ 4294967295 * k ∧ V2 W w2.heap.size c (.slice a n cap) w3.heap.size c0 (.slice a3 n3 c3) wr)) (fun _ _ _ i _ _ => 12 - (intOf i).toNat)
  case atStart => exact ⟨0, by omega, by omega, rfl, rfl, c0, a2, n2, c2, _, 0, rfl, rfl, Lib.hid ⟨HS0.out, by omega, V4.out⟩⟩
  case round =>
    clear V4
    obtain ⟨k, hk, hk12, rfl, rfl, c, a, n, cap, f, A, rfl, rfl, HI⟩ := hrel
    by_cases hgo : k < L.length ∧ k < 12
    · obtain ⟨hlt, hlt12⟩ := hgo
      have mz := mask12 (L.getD k 0)
      have hit := fun w => bitem_any (L.getD k 0 % 4096) w (by omega) (by omega)
      have hks := keyS_bd (L.getD k 0 % 4096)
      have hwt := wtS_bd (L.getD k 0 % 4096)
      have hsp := HI.out.1
      have hAk := HI.out.2.1
      obtain ⟨hs2, hi2⟩ := hsp.ins (itemS (L.getD k 0 % 4096)) (by omega)
      have hbd := hsp.bd
      have hw0 := hsp.w0
      have hcl := hsp.len
      have hKz : (keyS (L.getD k 0 % 4096)).size ≤ maxLen := by unfold maxLen; omega
      have hz := HR.out.at_ k
      obtain ⟨_, a6, cap6, he6, _, _, hc6⟩ := HR.out.below HI.out.2.2.bel
      simp only [Value.slice.injEq, true_and] at he6
      obtain ⟨rfl, rfl⟩ := he6
      obtain ⟨b6, off6, rfl, hb6, hcell6⟩ := hc6 (by omega)
      have hcc6 := hcell6 k hlt
      have hlI : (k : Int) < (L.length : Int) := by omega
      have h12I : (k : Int) < 12 := by omega
      clear hcell6 hc6 hz hks
      generalize L.getD k 0 = y0 at *
      generalize y0 % 4096 = j at *
      generalize keyS j = K1 at *
      generalize wtS j = x at *
      have HIN := Lib.hid (fun (w : World) (hv : RdE c.L (.slice a n cap) w) => pins_any c.S c.T x c.L c.s K1 a n cap w hbd.1.1 hbd.1.2 hbd.2.1 hbd.2.2 (by omega) (by omega) hKz hv (by omega))
      have hi3 : insE ⟨c.S, c.T, c.L, c.s⟩ K1 x = 0 := hi2
      have HS2 := Lib.hid hs2
      rw [hi3] at HIN
      obtain ⟨e, he⟩ : ∃ e, e = insTop c K1 x := ⟨_, rfl⟩
      rw [← he] at HS2
      have HIN2 : Hid (∀ (w : World) (hv : RdE c.L (.slice a n cap) w), Calls Try.prog 12 #[.agg #[.int .i64 c.S, .int .i64 c.T, .slice a n cap, .bool c.s], .agg #[.string K1, .int .i64 x]] w fun r w' => ∃ v, r = .returned (.tuple #[v, .int .i64 0]) ∧ OwnT w.heap.size e v w' ∧ Below w.heap.size w w') := by rw [he]; exact HIN
      have HVv := Lib.hid HI.out.2.2
      have qa : IntKind.i64.wrap (A + x) = A + x := by rw [IntKind.wrap_i64]; omega
      have qa2 : wrap64 (A + x) = A + x := by unfold wrap64; omega
      have HAA : Hid (A + x ≤ 4294967295 * ((k + 1 : Nat) : Int)) := Lib.hid (by omega)
      have hfK := hsp.any K
      have hfp := hsp.pos K
      have qo : IntKind.i64.wrap (f K + x) = f K + x := by rw [IntKind.wrap_i64]; omega
      have qo2 : wrap64 (f K + x) = f K + x := by unfold wrap64; omega
      clear hsp hs2 hi2 hi3 HIN hbd hcl hKz hfK hfp he hAk hw0
      generalize hbq : (K1.toList == K.toList) = bq at *
      have HBQ := Lib.hid hbq
      obtain ⟨⟨p0, p1, p2, p3⟩, -⟩ := HVv.out.one.cells
      cases bq
      all_goals
        go_wp2_with (first
          | (go_at_call 11; (with_reducible refine (hit _).mono ?_); rintro r w5 ⟨rfl, hb5⟩; have V5 := Lib.hid ((HVv.out.go hb5).al (.cells #[.string K1, .int .i64 x] 29)); have T5 := Lib.hid (Two.new w5 K1 x 29); have zz5 := Lib.hid (Nat.lt_of_lt_of_le HVv.out.one.lt hb5.size); clear hit hb5 p0 p1 p2 p3 HVv; obtain ⟨⟨p0, p1, p2, p3⟩, -⟩ := V5.out.one.cells)
          | (go_at_call 12; (with_reducible refine (HIN2.out _ V5.out.rd1).mono ?_); rintro r w6 ⟨u, rfl, ⟨a7, n7, c7, rfl, ho7⟩, hb7⟩; have V6 := Lib.hid (V5.out.go hb7); have T6 := Lib.hid (T5.out.below hb7); have O6 := Lib.hid ho7; (have ne1 : ¬ w5.heap.size = w2.heap.size := by have := zz5.out; omega); (have ne2 : ¬ w2.heap.size = w5.heap.size := by omega); clear HIN2 ho7 hb7 p0 p1 p2 p3 V5 T5; obtain ⟨⟨p0, p1, p2, p3⟩, f0, f1, f2, f3⟩ := V6.out.one.cells; obtain ⟨t0, t1, -⟩ := T6.out))
      all_goals
        exact ⟨⟨k + 1, by omega, by omega, rfl, by go_num, e, a7, n7, c7, addW f K1 x, A + x, by unfold addW sameK; rw [HBQ.out]; simp, rfl, Lib.hid ⟨HS2.out, HAA.out, V6.out.put1 O6.out⟩⟩, by simp [intOf]; omega⟩
    · go_upto_region 7 with (fail)
      refine wp_meetU 44 12 (fun us wx => wx = wr ∧ us[11]? = some (.bool false)) ?_ ?_
      · intro G hG
        have hgo2 : ¬ (k : Int) < (L.length : Int) ∨ ((k : Int) < (L.length : Int) ∧ ¬ (k : Int) < 12) := by omega
        rcases hgo2 with hg1 | ⟨hg1, hg2⟩
        all_goals
          go_wp2
          exact hG _ _ [_, _, _, _, _, _, _, _, _, _, _, _] ⟨rfl, rfl⟩ ⟨rfl, rfl⟩
      intro aX wX us hoff hX
      obtain ⟨hus, rfl⟩ := hoff
      obtain ⟨rfl, hX⟩ := hX
      match us, hus with
      | [x0, x1, x2, x3, x4, x5, x6, x7, x8, x9, x10, x11], _ =>
        simp only [List.getElem?_cons_succ, List.getElem?_cons_zero, Option.some.injEq] at hX
        subst hX
        simp only [List.take_succ_cons, List.take_zero, List.drop_succ_cons, List.drop_zero, List.cons_append, List.nil_append]
        have HC := Lib.hid HI.out.1
        have HA := Lib.hid (show A ≤ 4294967295 * 12 by have := HI.out.2.1; omega)
        have HV := Lib.hid HI.out.2.2
        have hA0 := HI.out.1.w0
        have hA1 := HA.out
        have hfK1 : 0 ≤ f K ∧ f K ≤ A := by have h1 := HC.out.any K; have h2 := HC.out.pos K; omega
        clear HI hgo hk hk12
        go_wp2
        go_loopw [13, 15, 16, 19, 20] (fun e o t i _ wr => ∃ k : Nat, k ≤ M.length ∧ k ≤ 12 ∧ e = .int .i64 0 ∧ i = .int .i64 (k : Int) ∧ ∃ (d : TP) (a2 : Option Addr) (n2 cap2 : Nat) (g : ByteArray → Int) (B : Int), o = .int .i64 (f K + g K) ∧ t = .int .i64 (A + B) ∧ Hid (Spc sz g B d ∧ B ≤ 4294967295 * k ∧ V2 W w2.heap.size c (.slice a n cap) w3.heap.size d (.slice a2 n2 cap2) wr)) (fun _ _ _ i _ _ => 12 - (intOf i).toNat)
        case atStart => exact ⟨0, by omega, by omega, rfl, rfl, c0, a3, n3, c3, _, 0, by rw [Int.add_zero], by rw [Int.add_zero], Lib.hid ⟨HS0.out, by omega, HV.out⟩⟩
        case round =>
          clear HV
          obtain ⟨k, hk, hk12, rfl, rfl, d, a2, n2, cap2, g, B, rfl, rfl, HI⟩ := hrel
          by_cases hgo : k < M.length ∧ k < 12
          · obtain ⟨hlt, hlt12⟩ := hgo
            have mz := mask12 (M.getD k 0)
            have hit := fun w => bitem_any (M.getD k 0 % 4096) w (by omega) (by omega)
            have hks := keyS_bd (M.getD k 0 % 4096)
            have hwt := wtS_bd (M.getD k 0 % 4096)
            have hsp := HI.out.1
            have hAk := HI.out.2.1
            obtain ⟨hs2, hi2⟩ := hsp.ins (itemS (M.getD k 0 % 4096)) (by omega)
            have hbd := hsp.bd
            have hw0 := hsp.w0
            have hcl := hsp.len
            have hKz : (keyS (M.getD k 0 % 4096)).size ≤ maxLen := by unfold maxLen; omega
            have hz := HQ.out.at_ k
            obtain ⟨_, a6, cap6, he6, _, _, hc6⟩ := HQ.out.below HI.out.2.2.bel
            simp only [Value.slice.injEq, true_and] at he6
            obtain ⟨rfl, rfl⟩ := he6
            obtain ⟨b6, off6, rfl, hb6, hcell6⟩ := hc6 (by omega)
            have hcc6 := hcell6 k hlt
            have hlI : (k : Int) < (M.length : Int) := by omega
            have h12I : (k : Int) < 12 := by omega
            clear hcell6 hc6 hz hks
            generalize M.getD k 0 = y0 at *
            generalize y0 % 4096 = j at *
            generalize keyS j = K1 at *
            generalize wtS j = x at *
            have HIN := Lib.hid (fun (w : World) (hv : RdE d.L (.slice a2 n2 cap2) w) => pins_any d.S d.T x d.L d.s K1 a2 n2 cap2 w hbd.1.1 hbd.1.2 hbd.2.1 hbd.2.2 (by omega) (by omega) hKz hv (by omega))
            have hi3 : insE ⟨d.S, d.T, d.L, d.s⟩ K1 x = 0 := hi2
            have HS2 := Lib.hid hs2
            rw [hi3] at HIN
            obtain ⟨e, he⟩ : ∃ e, e = insTop d K1 x := ⟨_, rfl⟩
            rw [← he] at HS2
            have HIN2 : Hid (∀ (w : World) (hv : RdE d.L (.slice a2 n2 cap2) w), Calls Try.prog 12 #[.agg #[.int .i64 d.S, .int .i64 d.T, .slice a2 n2 cap2, .bool d.s], .agg #[.string K1, .int .i64 x]] w fun r w' => ∃ v, r = .returned (.tuple #[v, .int .i64 0]) ∧ OwnT w.heap.size e v w' ∧ Below w.heap.size w w') := by rw [he]; exact HIN
            have HVv := Lib.hid HI.out.2.2
            have qa : IntKind.i64.wrap ((A + B) + x) = (A + B) + x := by rw [IntKind.wrap_i64]; omega
            have qa2 : wrap64 ((A + B) + x) = (A + B) + x := by unfold wrap64; omega
            have HAA : Hid (B + x ≤ 4294967295 * ((k + 1 : Nat) : Int)) := Lib.hid (by omega)
            have hfK := hsp.any K
            have hfp := hsp.pos K
            have qo : IntKind.i64.wrap ((f K + g K) + x) = (f K + g K) + x := by rw [IntKind.wrap_i64]; omega
            have qo2 : wrap64 ((f K + g K) + x) = (f K + g K) + x := by unfold wrap64; omega
            clear hsp hs2 hi2 hi3 HIN hbd hcl hKz hfK hfp he hAk hw0
            generalize hbq : (K1.toList == K.toList) = bq at *
            have HBQ := Lib.hid hbq
            obtain ⟨⟨p0, p1, p2, p3⟩, -⟩ := HVv.out.two.cells
            cases bq
            all_goals
              go_wp2_with (first
                | (go_at_call 11; (with_reducible refine (hit _).mono ?_); rintro r w5 ⟨rfl, hb5⟩; have V5 := Lib.hid ((HVv.out.go hb5).al (.cells #[.string K1, .int .i64 x] 29)); have T5 := Lib.hid (Two.new w5 K1 x 29); have zz5 := Lib.hid (Nat.lt_of_lt_of_le HVv.out.two.lt hb5.size); clear hit hb5 p0 p1 p2 p3 HVv; obtain ⟨⟨p0, p1, p2, p3⟩, -⟩ := V5.out.two.cells)
                | (go_at_call 12; (with_reducible refine (HIN2.out _ V5.out.rd2).mono ?_); rintro r w6 ⟨u, rfl, ⟨a7, n7, c7, rfl, ho7⟩, hb7⟩; have V6 := Lib.hid (V5.out.go hb7); have T6 := Lib.hid (T5.out.below hb7); have O6 := Lib.hid ho7; (have ne1 : ¬ w5.heap.size = w3.heap.size := by have := zz5.out; omega); (have ne2 : ¬ w3.heap.size = w5.heap.size := by omega); clear HIN2 ho7 hb7 p0 p1 p2 p3 V5 T5; obtain ⟨⟨p0, p1, p2, p3⟩, f0, f1, f2, f3⟩ := V6.out.two.cells; obtain ⟨t0, t1, -⟩ := T6.out))
            all_goals
              exact ⟨⟨k + 1, by omega, by omega, rfl, by go_num, e, a7, n7, c7, addW g K1 x, B + x, by unfold addW sameK; rw [HBQ.out]; simp [Int.add_assoc], by rw [Int.add_assoc], Lib.hid ⟨HS2.out, HAA.out, V6.out.put2 O6.out⟩⟩, by simp [intOf]; omega⟩
          · go_upto_region 15 with (fail)
            refine wp_meetU 82 12 (fun us wx => wx = wr ∧ us[11]? = some (.bool false)) ?_ ?_
            · intro G hG
              have hgo2 : ¬ (k : Int) < (M.length : Int) ∨ ((k : Int) < (M.length : Int) ∧ ¬ (k : Int) < 12) := by omega
              rcases hgo2 with hg1 | ⟨hg1, hg2⟩
              all_goals
                go_wp2
                exact hG _ _ [_, _, _, _, _, _, _, _, _, _, _, _] ⟨rfl, rfl⟩ ⟨rfl, rfl⟩
            intro aX wX us hoff hX
            obtain ⟨hus, rfl⟩ := hoff
            obtain ⟨rfl, hX⟩ := hX
            match us, hus with
            | [x0, x1, x2, x3, x4, x5, x6, x7, x8, x9, x10, x11], _ =>
              simp only [List.getElem?_cons_succ, List.getElem?_cons_zero, Option.some.injEq] at hX
              subst hX
              simp only [List.take_succ_cons, List.take_zero, List.drop_succ_cons, List.drop_zero, List.cons_append, List.nil_append]
              have HD := Lib.hid HI.out.1
              have hB : B ≤ 4294967295 * 12 := by have := HI.out.2.1; omega
              have hB0 := HI.out.1.w0
              have HV := Lib.hid HI.out.2.2
              clear HI hgo hk hk12
              obtain ⟨hsm, hme⟩ := HC.out.mer HD.out (by omega)
              have hcb := HC.out.bd
              have hdb := HD.out.bd
              have hcl := HC.out.len
              have hdl := HD.out.len
              have hm0 := fun (w : World) (h1 : RdE c.L (.slice a n cap) w) (h2 : RdE d.L (.slice a2 n2 cap2) w) => pmer_any c.S c.T c.L c.s d.S d.T d.L d.s a n cap a2 n2 cap2 w hcb.1.1 hcb.1.2 hcb.2.1 hcb.2.2 hdb.1.1 hdb.1.2 hdb.2.1 hdb.2.2 h1 h2 (by omega)
              have hme2 : merE ⟨c.S, c.T, c.L, c.s⟩ ⟨d.S, d.T, d.L, d.s⟩ = 0 := hme
              rw [hme2] at hm0
              obtain ⟨m, hmm⟩ : ∃ m, m = merTop c d := ⟨_, rfl⟩
              rw [← hmm] at hsm
              have HM : Hid (∀ (w : World) (h1 : RdE c.L (.slice a n cap) w) (h2 : RdE d.L (.slice a2 n2 cap2) w), Calls Try.prog 20 #[.agg #[.int .i64 c.S, .int .i64 c.T, .slice a n cap, .bool c.s], .agg #[.int .i64 d.S, .int .i64 d.T, .slice a2 n2 cap2, .bool d.s]] w fun r w' => ∃ v, r = .returned (.tuple #[v, .int .i64 0]) ∧ OwnT w.heap.size m v w' ∧ Below w.heap.size w w') := by rw [hmm]; exact Lib.hid hm0
              clear hm0 hme hme2 hmm hcb hdb
              obtain ⟨mS, mT, mL, ms⟩ := m
              obtain rfl : mS = sz := hsm.hS
              obtain rfl : mT = A + B := hsm.hT
              obtain rfl : ms = false := hsm.hs
              have hval : valE mS (A + B) mL = 0 := hsm.valid
              have hfe : findE mS (A + B) mL K = 0 := by unfold findE; rw [if_neg (by rw [hval]; simp), if_neg (by rw [HK.out]; simp)]
              have hfx : findX mS (A + B) mL K = entAt mL K (leastI mS mL) := by unfold findX; rw [if_neg (by rw [hfe]; simp)]
              have hany := hsm.any K
              have hleast := hsm.least
              have hsum := hsm.sum
              have hml := hsm.len
              have hmc := hsm.c0
              have hlp := leastI_pos (S := mS) hmc
              dsimp only at hany hleast hsum hml hmc hlp
              have HFD := fun (a5 : Option Addr) (n5 c5 : Nat) (w : World) (h : RdE mL (.slice a5 n5 c5) w) => pfind_any mS (A + B) mL false K a5 n5 c5 w (by omega) (by omega) (by omega) (by omega) HKs.out h (by omega)
              rw [hfe, hfx] at HFD
              have HFE := Lib.hid HFD
              have HLE := Lib.hid (fun (a5 : Option Addr) (n5 c5 : Nat) (w : World) (h : RdE mL (.slice a5 n5 c5) w) => pleast_any mS (A + B) mL false a5 n5 c5 w h (by omega))
              generalize findB mS (A + B) mL K = fb at *
              generalize entAt mL K (leastI mS mL) = x at *
              generalize leastI mS mL = l at *
              have HSUM := Lib.hid (fun k => sumC_bd hmc k)
              have HSUS := Lib.hid (fun k (h : k < mL.length) => sumC_take h)
              have HY := Lib.hid hmc
              obtain ⟨O, hO⟩ : ∃ O, O = f K + g K := ⟨_, rfl⟩
              rw [← hO] at hany ⊢
              clear HFD hfe hfx hval hsm hmc hO HC HD hcl hdl
              obtain ⟨y1, y2, y3, y4, y5, y6, y7⟩ := hany
              have q1 : IntKind.i64.wrap (x.c - x.e) = x.c - x.e := by rw [IntKind.wrap_i64]; omega
              have q2 : wrap64 (x.c - x.e) = x.c - x.e := by unfold wrap64; omega
              have q3 : ¬ O < x.c - x.e := by omega
              have q4 : ¬ x.c < O := by omega
              have hxs : 0 ≤ x.e * mS := Int.mul_nonneg y4 (by omega)
              have hls : 0 ≤ l * mS := Int.mul_nonneg hlp (by omega)
              have q5 : IntKind.i64.wrap (x.e * mS) = x.e * mS := by rw [IntKind.wrap_i64]; omega
              have q6 : wrap64 (x.e * mS) = x.e * mS := by unfold wrap64; omega
              have q7 : IntKind.i64.wrap (l * mS) = l * mS := by rw [IntKind.wrap_i64]; omega
              have q8 : wrap64 (l * mS) = l * mS := by unfold wrap64; omega
              have HQ := Lib.hid (⟨q5, q6, q7, q8, y3, hleast⟩ : IntKind.i64.wrap (x.e * mS) = x.e * mS ∧ wrap64 (x.e * mS) = x.e * mS ∧ IntKind.i64.wrap (l * mS) = l * mS ∧ wrap64 (l * mS) = l * mS ∧ x.e * mS ≤ A + B ∧ l * mS ≤ A + B)
              clear q5 q6 q7 q8 hxs hls y3 hleast
              obtain ⟨⟨p0, p1, p2, p3⟩, -⟩ := HV.out.one.cells
              obtain ⟨⟨r0, r1, r2, r3⟩, -⟩ := HV.out.two.cells
              go_upto_region 24 with (first
                | (go_at_call 20; (with_reducible refine (HM.out _ HV.out.rd1 HV.out.rd2).mono ?_); rintro r w7 ⟨u, rfl, ⟨a5, n5, c5, rfl, ho5⟩, hb7⟩; have S7 := Lib.hid (TopS.new mS (A + B) (.slice a5 n5 c5) false 25 w7); have R7 := Lib.hid (ho5.rd.below (b1 (.cells #[.int .i64 mS, .int .i64 (A + B), .slice a5 n5 c5, .bool false] 25))); have B7 := Lib.hid (bal (bgo HV.out.bel hb7) (.cells #[.int .i64 mS, .int .i64 (A + B), .slice a5 n5 c5, .bool false] 25)); clear ho5 hb7 HM p0 p1 p2 p3 r0 r1 r2 r3; obtain ⟨⟨p0, p1, p2, p3⟩, -⟩ := S7.out)
                | (go_at_call 27; (with_reducible refine (HFE.out _ _ _ _ R7.out).mono ?_); rintro r w8 ⟨rfl, hb8⟩; have S8 := Lib.hid ((S7.out.below hb8 S7.out.lt).below (b1 (.cells #[.string x.k, .int .i64 x.c, .int .i64 x.e] 49)) (S7.out.below hb8 S7.out.lt).lt); have R8 := Lib.hid ((R7.out.below hb8).below (b1 (.cells #[.string x.k, .int .i64 x.c, .int .i64 x.e] 49))); have B8 := Lib.hid (bal (bgo B7.out hb8) (.cells #[.string x.k, .int .i64 x.c, .int .i64 x.e] 49)); have A8 := Lib.hid (At3.new x w8); clear hb8 HFE S7 R7 B7 p0 p1 p2 p3; obtain ⟨⟨p0, p1, p2, p3⟩, -⟩ := S8.out; obtain ⟨r0, r1, r2⟩ := A8.out.zero))
              generalize w8.alloc (.cells #[.string x.k, .int .i64 x.c, .int .i64 x.e] 49) = wE at *
              go_wp2
              clear q1 q2 q3 q4
              go_loopw [26, 27] (fun s i wr => ∃ k : Nat, k ≤ mL.length ∧ s = .int .i64 (sumC (mL.take k)) ∧ i = .int .i64 (k : Int) ∧ wr = wE) (fun _ i _ => mL.length - (intOf i).toNat)
              case atStart => exact ⟨0, by omega, rfl, rfl, rfl⟩
              case round =>
                obtain ⟨k, hk, rfl, rfl, rfl⟩ := hrel
                have hk0 := HSUM.out k
                have hk1 := HSUM.out (k + 1)
                obtain ⟨-, a6, cap6, he6, -, -, hc6⟩ := R8.out
                have hn5 : n5 = mL.length := by simp only [Value.slice.injEq] at he6; exact he6.2.1
                subst hn5
                simp only [Value.slice.injEq, true_and] at he6
                obtain ⟨rfl, rfl⟩ := he6
                by_cases hlt : k < mL.length
                · obtain ⟨b6, off6, rfl, hb6, hcell6⟩ := hc6 (by omega)
                  obtain ⟨c0, c1, c2⟩ := hcell6 k hlt
                  have hS := HSUS.out k hlt
                  have hlt2 : (k : Int) < (mL.length : Int) := by omega
                  have hl32 : (mL.length : Int) ≤ 4 := by omega
                  rw [hS] at hk1
                  have HS' := Lib.hid hS
                  clear hcell6 hc6 hS
                  generalize mL.getD k Ent.z = X at *
                  generalize sumC (mL.take k) = Q at *
                  have q1 : IntKind.i64.wrap (Q + X.c) = Q + X.c := by rw [IntKind.wrap_i64]; omega
                  have q2 : wrap64 (Q + X.c) = Q + X.c := by unfold wrap64; omega
                  go_wp2
                  exact ⟨⟨k + 1, by omega, by rw [HS'.out], by go_num, by first | trivial | rfl⟩, by simp [intOf]; omega⟩
                · obtain rfl : k = mL.length := by omega
                  rw [List.take_length] at *
                  have hlt2 : ¬ (mL.length : Int) < (mL.length : Int) := by omega
                  have hs2 : sumC mL ≤ A + B := hsum
                  generalize sumC mL = Q at *
                  obtain ⟨q5, q6, q7, q8, q9, q10⟩ := HQ.out
                  clear hc6
                  go_wp2_with (first
                    | (go_at_call 28; (with_reducible refine (HLE.out _ _ _ _ R8.out).mono ?_); rintro r w9 ⟨rfl, hb9⟩; have B9 := Lib.hid (bgo B8.out hb9); clear hb9)
                    | (go_at_call 19; (with_reducible refine (known_any _).mono ?_); rintro r w10 ⟨rfl, hb10⟩; have B10 := Lib.hid (bgo B9.out hb10); clear hb10))
                  go_ret
                  exact ⟨rfl, B10.out⟩
end Go.Proofs.Ytcmekpdgikploaa
