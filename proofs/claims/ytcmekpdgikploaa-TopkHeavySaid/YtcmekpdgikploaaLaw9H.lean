/- The walk of the law TopkHeavy. -/
import Derived.Test.YtcmekpdgikploaaRows9
import Derived.Test.YtcmekpdgikploaaKnown9
import Derived.Test.YtcmekpdgikploaaSame9
import Derived.Test.YtcmekpdgikploaaPIns
import Derived.Test.YtcmekpdgikploaaFind9
import Derived.Test.YtcmekpdgikploaaOthI
import Derived.Deep.Cut
import Derived.Deep.RegionHeld3
import Derived.BigQuiet
namespace Go.Proofs.Ytcmekpdgikploaa
open Go.RowKit
set_option linter.unusedVariables false
set_option linter.unusedSimpArgs false
theorem mask12 (n : Int) : bits .and .i64 n 4095 = n % 4096 := i64_mask 12 (by decide) n
set_option maxRecDepth 100000 in
set_option maxHeartbeats 4000000 in
theorem topkHeavy_walk (S : Int) (al : Option Addr) (ln cap0 : Nat) (z : List Int) (W : World) (wa : (Lit.int .i64 S).wf = true) (w0 : InRow .i64 W al ln cap0 z) :
    Calls Try.prog 7 #[.int .i64 S, .slice al ln cap0] W fun e w' => e = .returned (.bool true) ∧ Below W.heap.size W w' := by
  have HR := Lib.hid (inRow_rdJ w0)
  have hlen : (z.take ln).length = ln := by obtain ⟨h1, _⟩ := w0; simp; omega
  generalize z.take ln = L at *
  subst hlen
  have hlL : (L.length : Int) ≤ 9223372036854775807 := by
    obtain ⟨_, _, _, _, h1, h2, _⟩ := HR.out
    unfold maxLen at h2
    omega
  have m1 := mask2 S
  have e0 : 0 ≤ S % 4 ∧ S % 4 ≤ 3 := by omega
  have h1 := fun w => pnew_any (1 + S % 4) w (by omega) (by omega)
  have HS0 := Lib.hid (Spc.new (S := 1 + S % 4) (by omega) (by omega))
  have hE0 : newTE (1 + S % 4) = 0 := by unfold newTE; rw [if_neg (by omega)]
  rw [hE0] at h1
  obtain ⟨sz, hsz⟩ : ∃ sz, sz = 1 + S % 4 := ⟨_, rfl⟩
  have hz0 : 1 ≤ sz := by omega
  have hz1 : sz ≤ 4 := by omega
  rw [← hsz] at h1 HS0
  have HSZ := Lib.hid hsz
  generalize newT sz = c0 at *
  generalize S % 4 = p at *
  obtain ⟨e00, e01⟩ := e0
  clear wa w0 hE0 hsz
  go_enter Try.func7, Try.ntmps7
  have hsz2 : 1 + p = sz := HSZ.out.symm
  go_wp2_with (go_at_call 14; (with_reducible refine (h1 _).mono ?_); rintro e w2 ⟨v2, rfl, ⟨a2, n2, c2, rfl, ho2⟩, hb2⟩; have V2 : Hid (HvM W w2.heap.size c0 (.slice a2 n2 c2) [] (.slice none 0 0) [] (.slice none 0 0) (w2.alloc (.cells #[.int .i64 c0.S, .int .i64 c0.T, .slice a2 n2 c2, .bool c0.s] 25))) := Lib.hid ⟨Vt.new ho2, OwnS.empty _ _, OwnI.empty _ _, hb2.size, bal hb2 _⟩; clear ho2 hb2 h1)
  go_loopw [7, 8, 9, 10, 11, 12, 13] (fun e vk vw i _ _ _ wr => ∃ k : Nat, k ≤ L.length ∧ k ≤ 14 ∧ e = .int .i64 0 ∧ i = .int .i64 (k : Int) ∧ ∃ (c : TP) (a : Option Addr) (n cap : Nat) (f : ByteArray → Int) (A : Int) (Ks : List ByteArray) (Ws : List Int) (aK : Option Addr) (nK cK : Nat) (aW : Option Addr) (nW cW : Nat), vk = .slice aK nK cK ∧ vw = .slice aW nW cW ∧ Hid (Spc sz f A c ∧ A ≤ 4294967295 * k ∧ KW f Ks Ws ∧ Ks.length ≤ k ∧ HvM W w2.heap.size c (.slice a n cap) Ks (.slice aK nK cK) Ws (.slice aW nW cW) wr)) (fun _ _ _ i _ _ _ _ => 14 - (intOf i).toNat)
  case atStart => exact ⟨0, by omega, by omega, rfl, rfl, c0, a2, n2, c2, _, 0, [], [], none, 0, 0, none, 0, 0, rfl, rfl, Lib.hid ⟨HS0.out, by omega, KW.nil, by simp, V2.out⟩⟩
  case round =>
    clear V2
    obtain ⟨k, hk, hk14, rfl, rfl, c, a, n, cap, f, A, Ks, Ws, aK, nK, cK, aW, nW, cW, rfl, rfl, HI⟩ := hrel
    by_cases hgo : k < L.length ∧ k < 14
    · obtain ⟨hlt, hlt14⟩ := hgo
      have mz := mask12 (L.getD k 0)
      have hit := fun w => bitem_any (L.getD k 0 % 4096) w (by omega) (by omega)
      have hks := keyS_bd (L.getD k 0 % 4096)
      have hkB : keyB (byt (keyS (L.getD k 0 % 4096))) = true := (itemE_zero (itemS (L.getD k 0 % 4096))).1
      have hwt := wtS_bd (L.getD k 0 % 4096)
      have hsp := HI.out.1
      have hAk := HI.out.2.1
      obtain ⟨hs2, hi2⟩ := hsp.ins (itemS (L.getD k 0 % 4096)) (by omega)
      have hbd := hsp.bd
      have hw0 := hsp.w0
      have hcl := hsp.len
      have hKz : (keyS (L.getD k 0 % 4096)).size ≤ maxLen := by unfold maxLen; omega
      have hz := HR.out.at_ k
      obtain ⟨_, a6, cap6, he6, _, _, hc6⟩ := HR.out.below HI.out.2.2.2.2.bel
      simp only [Value.slice.injEq, true_and] at he6
      obtain ⟨rfl, rfl⟩ := he6
      obtain ⟨b6, off6, rfl, hb6, hcell6⟩ := hc6 (by omega)
      have hcc6 := hcell6 k hlt
      have hlI : (k : Int) < (L.length : Int) := by omega
      have h14I : (k : Int) < 14 := by omega
      clear hcell6 hc6 hz hks
      generalize L.getD k 0 = y0 at *
      generalize y0 % 4096 = j at *
      generalize keyS j = K1 at *
      generalize wtS j = x at *
      have HKB := Lib.hid (⟨hkB, hKz⟩ : keyB (byt K1) = true ∧ K1.size ≤ maxLen)
      have HIN := Lib.hid (fun (w : World) (hv : RdE c.L (.slice a n cap) w) => pins_any c.S c.T x c.L c.s K1 a n cap w hbd.1.1 hbd.1.2 hbd.2.1 hbd.2.2 (by omega) (by omega) hKz hv (by omega))
      have hi3 : insE ⟨c.S, c.T, c.L, c.s⟩ K1 x = 0 := hi2
      have HS2 := Lib.hid hs2
      rw [hi3] at HIN
      obtain ⟨e, he⟩ : ∃ e, e = insTop c K1 x := ⟨_, rfl⟩
      rw [← he] at HS2
      have HIN2 : Hid (∀ (w : World) (hv : RdE c.L (.slice a n cap) w), Calls Try.prog 12 #[.agg #[.int .i64 c.S, .int .i64 c.T, .slice a n cap, .bool c.s], .agg #[.string K1, .int .i64 x]] w fun r w' => ∃ v, r = .returned (.tuple #[v, .int .i64 0]) ∧ OwnT w.heap.size e v w' ∧ Below w.heap.size w w') := by rw [he]; exact HIN
      have HVv := Lib.hid HI.out.2.2.2.2
      have HKW := Lib.hid HI.out.2.2.1
      have hKl : Ks.length ≤ 14 := by have := HI.out.2.2.2.1; omega
      have HKk := Lib.hid HI.out.2.2.2.1
      have HAA : Hid (A + x ≤ 4294967295 * ((k + 1 : Nat) : Int)) := Lib.hid (by omega)
      have HFB := Lib.hid (fun K => (⟨hsp.pos K, (hsp.any K).2.1, (hsp.any K).2.2.2.2.1⟩ : 0 ≤ f K ∧ f K ≤ (entAt c.L K (leastI sz c.L)).c ∧ (entAt c.L K (leastI sz c.L)).c ≤ A))
      have hA14 : A ≤ 4294967295 * 14 := by omega
      clear hsp hs2 hi2 hi3 HIN hbd hcl hKz he hAk hw0 HI hkB
      obtain ⟨⟨p0, p1, p2, p3⟩, -⟩ := HVv.out.vt.cells
      go_wp2_with (first
        | (go_at_call 11; (with_reducible refine (hit _).mono ?_); rintro r w5 ⟨rfl, hb5⟩; have V5 := Lib.hid ((HVv.out.go hb5).al (.cells #[.string K1, .int .i64 x] 29)); have T5 := Lib.hid (Two.new w5 K1 x 29); have zz5 := Lib.hid (Nat.lt_of_lt_of_le HVv.out.vt.lt hb5.size); have V0 := Lib.hid (HVv.out.go hb5); clear hit hb5 p0 p1 p2 p3 HVv; obtain ⟨⟨p0, p1, p2, p3⟩, -⟩ := V5.out.vt.cells)
        | (go_at_call 12; (with_reducible refine (HIN2.out _ V5.out.rd).mono ?_); rintro r w6 ⟨u, rfl, ⟨a7, n7, c7, rfl, ho7⟩, hb7⟩; have V6 := Lib.hid ((V5.out.go hb7).put ho7); (have ne1 : w5.heap.size ≠ w2.heap.size := by have := zz5.out; omega); have T6 := Lib.hid ((T5.out.below hb7).other (V5.out.go hb7).vt (.int .i64 e.S) (.int .i64 e.T) (.slice a7 n7 c7) (.bool e.s) ne1); have c6 := (V5.out.go hb7).vt.cells; clear HIN2 ho7 hb7 p0 p1 p2 p3 V5 T5; obtain ⟨⟨p0, p1, p2, p3⟩, f0, f1, f2, f3⟩ := c6))
      clear p0 p1 p2 p3 f0 f1 f2 f3
      generalize (((w6.setCell ⟨w2.heap.size, 0, none⟩ (.int .i64 e.S)).setCell ⟨w2.heap.size, 1, none⟩ (.int .i64 e.T)).setCell ⟨w2.heap.size, 2, none⟩ (.slice a7 n7 c7)).setCell ⟨w2.heap.size, 3, none⟩ (.bool e.s) = w7 at *
      have hnK := V6.out.ks.len
      have hnW := V6.out.ws.len
      subst hnK hnW
      have HLK := Lib.hid HKW.out.len
      have HI0 : Hid (AtK Ks K1 0 (-1) ∧ HvM W w2.heap.size e (.slice a7 n7 c7) Ks (.slice aK Ks.length cK) Ws (.slice aW Ws.length cW) w7 ∧ Two w5.heap.size K1 x w7 ∧ (-1 : Int) ≤ -1 ∧ (-1 : Int) ≤ Ks.length) := Lib.hid ⟨AtK.zero _ _, V6.out, T6.out, by omega, by omega⟩
      clear V6 T6
      go_loopw [12, 13] (fun t i wr => ∃ (q : Nat) (s : Int), q ≤ Ks.length ∧ i = .int .i64 (q : Int) ∧ t = .int .i64 s ∧ Hid (AtK Ks K1 q s ∧ HvM W w2.heap.size e (.slice a7 n7 c7) Ks (.slice aK Ks.length cK) Ws (.slice aW Ws.length cW) wr ∧ Two w5.heap.size K1 x wr ∧ -1 ≤ s ∧ s ≤ Ks.length)) (fun _ i _ => Ks.length - (intOf i).toNat)
      case atStart => exact ⟨0, -1, by omega, rfl, rfl, HI0⟩
      case round =>
        clear HI0
        obtain ⟨q, s, hq, rfl, rfl, HI⟩ := hrel
        by_cases hqlt : q < Ks.length
        · obtain ⟨gK, rfl, -, -⟩ := HI.out.2.1.ks.blk (by omega)
          have x0 := HI.out.2.1.ks.at_ hqlt
          obtain ⟨t0, t1, -⟩ := HI.out.2.2.1
          have HH := Lib.hid (fun (h : (Ks.getD q ByteArray.empty).toList == K1.toList) => AtK.hit h)
          have HM := Lib.hid (fun (h : ((Ks.getD q ByteArray.empty).toList == K1.toList) = false) => HI.out.1.miss h)
          have hqI : (q : Int) < (Ks.length : Int) := by omega
          have hbi := HI.out.2.2.2
          generalize Ks.getD q ByteArray.empty = Kq at *
          generalize hbq : (Kq.toList == K1.toList) = bq at *
          have HBQ := Lib.hid hbq
          cases bq
          all_goals
            go_upto_region 14 with (fail)
            go_region_held3 (fun w' => w'.cell? ⟨gK, q, none⟩ = some (.string Kq) ∧ w'.cell? ⟨w5.heap.size, 0, none⟩ = some (.string K1)) (first | assumption | exact ⟨x0, t0⟩ | go_keep) (first | fail)
            go_wp2
          · exact ⟨⟨q + 1, s, by omega, by go_num, rfl, Lib.hid ⟨HM.out rfl, HI.out.2.1.drew, HI.out.2.2.1.drew, hbi⟩⟩, by simp [intOf]; omega⟩
          · exact ⟨⟨q + 1, (q : Int), by omega, by go_num, rfl, Lib.hid ⟨HH.out rfl, HI.out.2.1.drew, HI.out.2.2.1.drew, by omega, by omega⟩⟩, by simp [intOf]; omega⟩
        · obtain rfl : q = Ks.length := by omega
          have hqn : ¬ (Ks.length : Int) < (Ks.length : Int) := by omega
          have V8 := Lib.hid HI.out.2.1
          have T8 := Lib.hid HI.out.2.2.1
          have lK := Lib.hid (fun g (e : (Value.slice aK Ks.length cK).ownBlock = some g) => (World.ownsRow.lt V0.out.ks g e).2)
          have lW := Lib.hid (fun g (e : (Value.slice aW Ws.length cW).ownBlock = some g) => (World.ownsRow.lt V0.out.ws.2 g e).2)
          have hW9 := Lib.hid V8.out.bel.size
          have hat := HI.out.1
          clear HI hq hqlt V0
          rcases hat with ⟨rfl, hnone⟩ | ⟨j2, hj2, rfl, hkj⟩
          · have HNEW := Lib.hid (HKW.out.new hnone HKB.out.1 HKB.out.2 x)
            have H1 := Lib.hid (V8.out.al (.cells #[.string K1] 9))
            have F1 := Lib.hid (OwnS.one K1 wr).rd.src
            have U1 := Lib.hid (T8.out.below (b1 (.cells #[.string K1] 9)))
            have Z1 : Hid (W.heap.size ≤ (wr.alloc (.cells #[.string K1] 9)).heap.size) := Lib.hid (Nat.le_trans hW9.out (b1 _).size)
            have Y1 : Hid (Ks.length + [K1].length ≤ 1099511627776) := Lib.hid (by simp; omega)
            have Y2 : Hid (Ws.length + [(0 : Int)].length ≤ 1099511627776) := Lib.hid (by have := HLK.out; simp; omega)
            obtain ⟨t0, t1, -⟩ := T8.out
            clear hnone
            go_upto_region 18 with (first
              | (at_builtin; refine wp_appGS rfl _ _ _ rfl W.heap.size Ks [K1] _ _ rfl rfl H1.out.ks F1.out Z1.out Y1.out ?_; (intro v9 w9 ho9 hb9 hl9; obtain ⟨a9, cap9, rfl⟩ : ∃ a cap, v9 = .slice a (Ks.length + 1) cap := (by obtain ⟨a', cap', he, _⟩ := ho9.rd; exact ⟨a', cap', by rw [he]; simp⟩); have V9 := Lib.hid (H1.out.keys ho9 hb9 hl9); have U9 := Lib.hid (U1.out.lone hl9 lK.out); have H2 := Lib.hid (V9.out.al (.cells #[.int .i64 0] 3)); have F2 := Lib.hid (OwnI.one (c := 0) (by omega) w9).rd.src; have U2 := Lib.hid (U9.out.below (b1 (.cells #[.int .i64 0] 3))); have Z2 : Hid (W.heap.size ≤ (w9.alloc (.cells #[.int .i64 0] 3)).heap.size) := Lib.hid (Nat.le_trans V9.out.bel.size (b1 _).size); clear ho9 hb9 hl9 H1 U1 V9 U9))
              | (at_builtin; refine wp_appGI rfl _ _ _ rfl W.heap.size Ws [0] _ _ rfl rfl H2.out.ws F2.out Z2.out Y2.out ?_; (intro v10 w10 ho10 hb10 hl10; obtain ⟨a10, cap10, rfl⟩ : ∃ a cap, v10 = .slice a (Ws.length + 1) cap := (by obtain ⟨a', cap', he⟩ := ho10.rd.shape; exact ⟨a', cap', by rw [he]; simp⟩); have V10 := Lib.hid (H2.out.weights ho10 hb10 hl10); have U10 := Lib.hid (U2.out.lone hl10 lW.out); clear ho10 hb10 hl10 H2 U2)))
            clear t0 t1
            obtain ⟨gW, rfl, hgB, -, hcW, hsW⟩ := V10.out.ws.cells (by simp)
            have HGB := Lib.hid hgB
            clear hgB
            obtain ⟨y0, yf⟩ := hcW Ks.length (by have := HLK.out; simp; omega)
            have ez : (Ws ++ [0]).getD Ks.length 0 = 0 := by rw [HLK.out]; simp [List.getD]
            rw [ez] at y0
            have HSW := Lib.hid (hsW Ks.length (0 + x) (by omega))
            obtain ⟨t0, t1, -⟩ := U10.out
            have hidx : (Ks.length : Int) < (Ws.length : Int) + 1 := by have := HLK.out; omega
            have hidx0 : (0 : Int) ≤ (Ks.length : Int) := by omega
            have q1 : IntKind.i64.wrap (0 + x) = 0 + x := by rw [IntKind.wrap_i64]; omega
            have q2 : wrap64 (0 + x) = 0 + x := by unfold wrap64; omega
            have q3 : IntKind.i64.wrap x = x := by rw [IntKind.wrap_i64]; omega
            clear hcW hsW ez
            go_big_region
            go_wp2
            rw [Int.zero_add] at HSW HNEW
            exact ⟨⟨k + 1, by omega, by omega, rfl, by go_num, e, a7, n7, c7, addW f K1 x, A + x, Ks ++ [K1], (Ws ++ [0]).set Ks.length x, a9, Ks.length + 1, cap9, some ⟨gW, 0, none⟩, Ws.length + 1, cap10, rfl, rfl, Lib.hid ⟨HS2.out, HAA.out, HNEW.out, by have := HKk.out; simp; omega, (V10.out.weights HSW.out (bsetB (Below.refl _ _) _ _ _ HGB.out) (Lone.set _ _ _ rfl)).drew⟩⟩, by simp [intOf]; omega⟩
          · have HOLD := Lib.hid (HKW.out.old hj2 hkj x)
            have hwj := HKW.out.wt j2 hj2
            have hfb := HFB.out (Ks.getD j2 ByteArray.empty)
            rw [← hwj] at hfb
            obtain ⟨gW, rfl, hgB, -, hcW, hsW⟩ := V8.out.ws.cells (by have := HLK.out; omega)
            obtain ⟨y0, yf⟩ := hcW j2 (by have := HLK.out; omega)
            have HSW := Lib.hid (hsW j2 (Ws.getD j2 0 + x) (by omega))
            obtain ⟨t0, t1, -⟩ := T8.out
            have hidx : (j2 : Int) < (Ws.length : Int) := by have := HLK.out; omega
            have hidx0 : (0 : Int) ≤ (j2 : Int) := by omega
            have hneg : ¬ (j2 : Int) < 0 := by omega
            have HGB := Lib.hid hgB
            clear hcW hsW hwj hkj hgB
            generalize Ws.getD j2 0 = wj at *
            have q1 : IntKind.i64.wrap (wj + x) = wj + x := by rw [IntKind.wrap_i64]; omega
            have q2 : wrap64 (wj + x) = wj + x := by unfold wrap64; omega
            clear hfb
            go_upto_region 18 with (fail)
            go_big_region
            go_wp2
            exact ⟨⟨k + 1, by omega, by omega, rfl, by go_num, e, a7, n7, c7, addW f K1 x, A + x, Ks, Ws.set j2 (wj + x), aK, Ks.length, cK, some ⟨gW, 0, none⟩, Ws.length, cW, rfl, rfl, Lib.hid ⟨HS2.out, HAA.out, HOLD.out, by have := HKk.out; omega, (V8.out.weights HSW.out (bsetB (Below.refl _ _) _ _ _ HGB.out) (Lone.set _ _ _ rfl)).drew⟩⟩, by simp [intOf]; omega⟩
        
    · go_upto_region 6 with (fail)
      refine wp_meetU 26 12 (fun us wx => wx = wr ∧ us[11]? = some (.bool false)) ?_ ?_
      · intro G hG
        have hgo2 : ¬ (k : Int) < (L.length : Int) ∨ ((k : Int) < (L.length : Int) ∧ ¬ (k : Int) < 14) := by omega
        rcases hgo2 with hg1 | ⟨hg1, hg2⟩
        all_goals
          go_wp2
          exact hG _ _ [_, _, _, _, _, _, _, _, _, _, _, _] ⟨rfl, rfl⟩ ⟨rfl, rfl⟩
      intro aX wX us hoff hX
      obtain ⟨hus, rfl⟩ := hoff
      obtain ⟨rfl, hX⟩ := hX
      match us, hus with
      | [x0, x1, x2, x3, x4, x5, x6, x7, x8, x9, x10, x11], _ =>
        simp only [List.getElem?_cons_succ, List.getElem?_cons_zero, Option.some.injEq] at hX
        subst hX
        simp only [List.take_succ_cons, List.take_zero, List.drop_succ_cons, List.drop_zero, List.cons_append, List.nil_append]
        have HC := Lib.hid HI.out.1
        have HA : Hid (A ≤ 4294967295 * 14) := Lib.hid (by have := HI.out.2.1; omega)
        have HKW := Lib.hid HI.out.2.2.1
        have hKl : Ks.length ≤ 14 := by have := HI.out.2.2.2.1; omega
        have HV := Lib.hid HI.out.2.2.2.2
        have hnK := HV.out.ks.len
        have hnW := HV.out.ws.len
        subst hnK hnW
        have HLK := Lib.hid HKW.out.len
        clear HI hgo hk hk14
        go_wp2
        go_loopw [14, 15, 16, 17] (fun i _ _ _ wr => ∃ q : Nat, q ≤ Ks.length ∧ i = .int .i64 (q : Int) ∧ Hid (HvM W w2.heap.size c (.slice a n cap) Ks (.slice aK Ks.length cK) Ws (.slice aW Ws.length cW) wr)) (fun i _ _ _ _ => Ks.length - (intOf i).toNat)
        case atStart => exact ⟨0, by omega, rfl, HV⟩
        case round =>
          clear HV
          obtain ⟨q, hq, rfl, HI⟩ := hrel
          by_cases hqlt : q < Ks.length
          · obtain ⟨gK, rfl, -, -⟩ := HI.out.ks.blk (by omega)
            obtain ⟨gW, rfl, -, -, -, -⟩ := HI.out.ws.cells (by have := HLK.out; omega)
            have HQ2 : Hid (q < Ws.length) := Lib.hid (by have := HLK.out; omega)
            have hqI : (q : Int) < (Ks.length : Int) := by omega
            have hqW : (q : Int) < (Ws.length : Int) := by have := HQ2.out; omega
            have hkey := HKW.out.key q hqlt
            have hwt := HKW.out.wt q hqlt
            have hany := HC.out.any (Ks.getD q ByteArray.empty)
            have hpos := HC.out.pos (Ks.getD q ByteArray.empty)
            have hun := HC.out.un (Ks.getD q ByteArray.empty)
            have hleast := HC.out.least
            have hbd := HC.out.bd
            have hcl := HC.out.len
            have hT := HC.out.hT
            have hval := HC.out.valid
            have hAb := HA.out
            rw [← hwt] at hany hpos hun
            clear hwt
            obtain ⟨K1, hK1⟩ : ∃ K1, Ks.getD q ByteArray.empty = K1 := ⟨_, rfl⟩
            obtain ⟨wq, hwq⟩ : ∃ wq, Ws.getD q 0 = wq := ⟨_, rfl⟩
            rw [hK1] at hany hun hkey
            rw [hwq] at hany hpos hun
            have HKq := Lib.hid hK1
            have HWq := Lib.hid hwq
            clear hK1 hwq
            have hfe : findE c.S c.T c.L K1 = 0 := by unfold findE; rw [if_neg (by rw [hval]; simp), if_neg (by rw [hkey.1]; simp)]
            have hfb : findB c.S c.T c.L K1 = hasK c.L K1 := by unfold findB; rw [if_neg (by rw [hfe]; simp)]
            have HFD := Lib.hid (fun (w : World) (h : RdE c.L (.slice a n cap) w) => pfind_any c.S c.T c.L c.s K1 a n cap w hbd.1.1 hbd.1.2 hbd.2.1 hbd.2.2 hkey.2 h (by omega))
            rw [hfe, hfb] at HFD
            generalize findX c.S c.T c.L K1 = X at *
            have hwub : wq * sz ≤ wq * 4 := Int.mul_le_mul_of_nonneg_left hz1 hpos
            have hwlb : 0 ≤ wq * sz := Int.mul_nonneg hpos (by omega)
            have hD : decide (c.T < wq * sz) = false ∨ (decide (c.T < wq * sz) = true ∧ hasK c.L K1 = true) := by
              by_cases hd : c.T < wq * sz
              · refine .inr ⟨decide_eq_true hd, ?_⟩
                cases hh : hasK c.L K1 with
                | true => rfl
                | false =>
                  have h1 := hun hh
                  have h2 := Int.mul_le_mul_of_nonneg_right h1 (show (0 : Int) ≤ sz by omega)
                  omega
              · exact .inl (decide_eq_false hd)
            generalize hasK c.L K1 = hb at *
            have q5 : IntKind.i64.wrap (wq * sz) = wq * sz := by rw [IntKind.wrap_i64]; omega
            have q6 : wrap64 (wq * sz) = wq * sz := by unfold wrap64; omega
            have HQ := Lib.hid (⟨q5, q6⟩ : IntKind.i64.wrap (wq * sz) = wq * sz ∧ wrap64 (wq * sz) = wq * sz)
            have HDD := Lib.hid hD
            have HV0 := Lib.hid HI.out
            have S0 := HV0.out.drew.c6 hqlt HQ2.out HKq.out HWq.out
            obtain ⟨p0, p1, p2, p3, x0, y0⟩ := HV0.out.drew.c6 hqlt HQ2.out HKq.out HWq.out
            clear q5 q6 hD hwub hwlb hfe hfb hany hpos hun hleast hbd hcl hT hval hAb hkey HI
            go_upto_region 24 with (fail)
            go_region_held3 (fun w' => w'.cell? ⟨w2.heap.size, 0, none⟩ = some (.int .i64 c.S) ∧ w'.cell? ⟨w2.heap.size, 1, none⟩ = some (.int .i64 c.T) ∧ w'.cell? ⟨w2.heap.size, 2, none⟩ = some (.slice a n cap) ∧ w'.cell? ⟨w2.heap.size, 3, none⟩ = some (.bool c.s) ∧ w'.cell? ⟨gK, q, none⟩ = some (.string K1) ∧ w'.cell? ⟨gW, q, none⟩ = some (.int .i64 wq)) (first | with_reducible assumption | ((try dsimp only); with_reducible refine HvM.c6 (Ks := Ks) (Ws := Ws) (W := W) (nK := Ks.length) (cK := cK) (nW := Ws.length) (cW := cW) (g := w2.heap.size) (c := c) (v := .slice a n cap) ?_ hqlt HQ2.out HKq.out HWq.out; repeat (first | with_reducible exact J8.out | with_reducible exact HV0.out | with_reducible refine HvM.drewN ?_ _ | with_reducible refine HvM.drew ?_ | with_reducible refine HvM.al ?_ _ | with_reducible refine HvM.putE HV0.out ?_ _ _))) (first
              | (go_at_call 27; (with_reducible refine (HFD.out _ (HV0.out.al (.cells #[.string ⟨#[]⟩, .int .i64 0, .int .i64 0] 49)).drew.rd).mono ?_); rintro r w8 ⟨rfl, hb8⟩; have J8 := Lib.hid ((HV0.out.al (.cells #[.string ⟨#[]⟩, .int .i64 0, .int .i64 0] 49)).drew.go hb8); have S8 := J8.out.c6 hqlt HQ2.out HKq.out HWq.out; obtain ⟨⟨z0, z1, z2⟩, z3, z4, z5⟩ := ((En3.new wr).bd (Below.refl _ _).drew).bd hb8; clear hb8)
              | (go_at_call 27; (with_reducible refine (HFD.out _ HV0.out.drew.rd).mono ?_); rintro r w8 ⟨rfl, hb8⟩; have J8 := Lib.hid (HV0.out.drew.go hb8); have S8 := J8.out.c6 hqlt HQ2.out HKq.out HWq.out; clear hb8))
            all_goals
              rename_i hHeld
              obtain ⟨p0, p1, p2, p3, x0, y0⟩ := hHeld
              obtain ⟨q5, q6⟩ := HQ.out
              rcases HDD.out with hD | ⟨hD, hD2⟩
              all_goals
                go_upto_region 25 with (fail)
                go_quiet (fail)
                go_wp2
                exact ⟨⟨q + 1, by omega, by go_num, Lib.hid (by repeat (first | with_reducible exact J8.out | with_reducible exact HV0.out | with_reducible refine HvM.drewN ?_ _ | with_reducible refine HvM.drew ?_ | with_reducible refine HvM.al ?_ _ | with_reducible refine HvM.putE HV0.out ?_ _ _))⟩, by simp [intOf]; omega⟩
          · obtain rfl : q = Ks.length := by omega
            have hqn : ¬ (Ks.length : Int) < (Ks.length : Int) := by omega
            have B8 := Lib.hid HI.out.bel
            clear HI hq hqlt
            go_wp2_with (go_at_call 19; (with_reducible refine (known_any _).mono ?_); rintro r w10 ⟨rfl, hb10⟩; have B10 := Lib.hid (bgo B8.out hb10); clear hb10)
            go_ret
            exact ⟨rfl, B10.out⟩
end Go.Proofs.Ytcmekpdgikploaa
