/- The contract of topk.Merge. -/
import Derived.Test.YtcmekpdgikploaaMerS
import Derived.Deep.Cut
namespace Go.Proofs.Ytcmekpdgikploaa
open Go.RowKit
set_option linter.unusedVariables false
set_option linter.unusedSimpArgs false
set_option maxRecDepth 100000 in
set_option maxHeartbeats 4000000 in
theorem pmerG_any (S T : Int) (L : List Ent) (s : Bool) (T2 : Int) (M : List Ent) (s2 : Bool) (a : Option Addr) (n cap : Nat) (a2 : Option Addr) (n2 cap2 : Nat) (w : World) (S0 : -9223372036854775808 ≤ S) (S1 : S ≤ 9223372036854775807) (T0 : -9223372036854775808 ≤ T) (T1 : T ≤ 9223372036854775807) (U0 : -9223372036854775808 ≤ T2) (U1 : T2 ≤ 9223372036854775807) (hr : RdE L (.slice a n cap) w) (hr2 : RdE M (.slice a2 n2 cap2) w) (hn : L.length + M.length ≤ 12) (hva : valE S T L = 0) (hvb : valE S T2 M = 0) :
    Calls Try.prog 20 #[.agg #[.int .i64 S, .int .i64 T, .slice a n cap, .bool s], .agg #[.int .i64 S, .int .i64 T2, .slice a2 n2 cap2, .bool s2]] w fun e w' =>
      ∃ v, e = .returned (.tuple #[v, .int .i64 0]) ∧ OwnT w.heap.size ⟨S, tS T T2, merL S L M, s || s2 || jf (pAB L M (leastI S L) (leastI S M)) || tF T T2⟩ v w' ∧ Below w.heap.size w w' := by
  obtain ⟨a', cap', he⟩ := hr.shape
  simp only [Value.slice.injEq] at he
  obtain ⟨rfl, rfl, rfl⟩ := he
  obtain ⟨a2', cap2', he⟩ := hr2.shape
  simp only [Value.slice.injEq] at he
  obtain ⟨rfl, rfl, rfl⟩ := he
  have hy := hr.1
  have hy2 := hr2.1
  have HR := Lib.hid hr
  have HR2 := Lib.hid hr2
  have HV := Lib.hid (fun (w' : World) (hb : Below w.heap.size w w') => pval_any S T L s a L.length cap w' S0 S1 T0 T1 (hr.below hb) (by omega))
  have HV2 := Lib.hid (fun (w' : World) (hb : Below w.heap.size w w') => pval_any S T2 M s2 a2 M.length cap2 w' S0 S1 U0 U1 (hr2.below hb) (by omega))
  have HA := Lib.hid (fun (w' : World) (hb : Below w.heap.size w w') => iof_any S T L s a L.length cap w' (hr.below hb) (by omega))
  have HA2 := Lib.hid (fun (w' : World) (hb : Below w.heap.size w w') => iof_any S T2 M s2 a2 M.length cap2 w' (hr2.below hb) (by omega))
  have hv1 := valE_ok hva
  have hv2 := valE_ok hvb
  have ho1 := hv1.one'
  have ho2 := hv2.one'
  have HS := Lib.hid (⟨hv1.s0, hv1.s1⟩ : 1 ≤ S ∧ S ≤ 32)
  rw [hva] at HV
  rw [hvb] at HV2
  have M0 := Lib.hid (MB.new w S T (.slice a L.length cap) s S T2 (.slice a2 M.length cap2) s2)
  have HN := Lib.hid hn
  clear hr hr2 hva hvb hv1 hv2 hn
  have hlb := leastI_bd (S := S) hy2
  have HRS : Hid (merL S L M = (sortE (jn (pB L M (leastI S L) (leastI S M) M.length))).take (min (jn (pB L M (leastI S L) (leastI S M) M.length)).length S.toNat) ∧ jf (pAB L M (leastI S L) (leastI S M)) = jf (pB L M (leastI S L) (leastI S M) M.length)) := Lib.hid ⟨rfl, rfl⟩
  generalize merL S L M = MR at *
  generalize jf (pAB L M (leastI S L) (leastI S M)) = JR at *
  have hla := leastI_bd (S := S) hy
  generalize leastI S M = lb at *
  generalize leastI S L = la at *
  go_enter Try.func20, Try.ntmps20
  go_upto_region 9 with (first
    | (go_at_call 17; (with_reducible refine (HV.out _ M0.out.bel).mono ?_); rintro e w2 ⟨rfl, hb2⟩; have M2 := Lib.hid (M0.out.go hb2); obtain ⟨⟨p0, p1, p2, p3⟩, ⟨q0, q1, q2, q3⟩, -, -⟩ := M2.out.cells; clear hb2)
    | (go_at_call 17; (with_reducible refine (HV2.out _ M2.out.bel).mono ?_); rintro e w3 ⟨rfl, hb3⟩; have M3 := Lib.hid (M2.out.go hb3); clear p0 p1 p2 p3 q0 q1 q2 q3; obtain ⟨⟨p0, p1, p2, p3⟩, ⟨q0, q1, q2, q3⟩, -, -⟩ := M3.out.cells; clear hb3))
  refine wp_meetX 8 39 7 (fun v wx => v = .pointer (some ⟨w3.heap.size, 0, none⟩) ∧ wx = w3.alloc (.cells #[.bool (s || s2)] 58)) ?_ ?_
  · intro G hG
    cases s
    all_goals
      go_wp2
      exact hG _ _ _ ⟨[_, _, _, _, _, _, _], rfl, rfl⟩ ⟨rfl, rfl⟩
  intro aX wX vX hoff hX
  obtain ⟨us, hus, rfl⟩ := hoff
  obtain ⟨rfl, rfl⟩ := hX
  match us, hus with
  | [u0, u1, u2, u3, u4, u5, u6], _ =>
    simp only [List.set_cons_succ, List.set_cons_zero, List.take_succ_cons, List.take_zero, List.drop_succ_cons, List.drop_zero, List.cons_append, List.nil_append]
    have HG : Hid (w.heap.size + 3 ≤ w3.heap.size) := Lib.hid (by have := M3.out.lt; omega)
    have MX : Hid ((MB w S T (.slice a L.length cap) s S T2 (.slice a2 M.length cap2) s2) (w3.alloc (.cells #[.bool (s || s2)] 58))) := Lib.hid (M3.out.al _)
    have FX : Hid (Fl w3.heap.size (s || s2) (w3.alloc (.cells #[.bool (s || s2)] 58))) := Lib.hid ⟨by go_simp, by go_simp⟩
    clear p0 p1 p2 p3 q0 q1 q2 q3 M0 M2 M3 HV HV2
    generalize w3.alloc (.cells #[.bool (s || s2)] 58) = wX at *
    have S0 := MX.out.drew.cells
    obtain ⟨⟨p0, p1, p2, p3⟩, ⟨q0, q1, q2, q3⟩, -, -⟩ := MX.out.drew.cells
    go_upto_region 10 with (fail)
    refine wp_meetY 9 10 46 4 (fun v u wx => ∃ g9 g10 b9 b10 : Nat, v = .pointer (some ⟨g9, 0, none⟩) ∧ u = .pointer (some ⟨g10, 0, none⟩) ∧ Hid ((MJ w S T (.slice a L.length cap) s S T2 (.slice a2 M.length cap2) s2 L M la lb w3.heap.size g9 g10 b9 b10 (s || s2)) wx)) ?_ ?_
    · intro G hG
      have K0 : Hid (KI w S T (.slice a L.length cap) s S T2 (.slice a2 M.length cap2) s2 w3.heap.size (s || s2) [] wX) := Lib.hid ⟨MX.out, FX.out, HG.out, fun _ hg => by simp at hg, List.nodup_nil⟩
      go_region_held3 (fun w' => w'.cell? ⟨w.heap.size, 0, none⟩ = some (.int .i64 S) ∧ w'.cell? ⟨w.heap.size, 1, none⟩ = some (.int .i64 T) ∧ w'.cell? ⟨w.heap.size, 2, none⟩ = some (.slice a L.length cap) ∧ w'.cell? ⟨w.heap.size, 3, none⟩ = some (.bool s) ∧ w'.cell? ⟨w.heap.size + 1, 0, none⟩ = some (.int .i64 S) ∧ w'.cell? ⟨w.heap.size + 1, 1, none⟩ = some (.int .i64 T2) ∧ w'.cell? ⟨w.heap.size + 1, 2, none⟩ = some (.slice a2 M.length cap2) ∧ w'.cell? ⟨w.heap.size + 1, 3, none⟩ = some (.bool s2)) (first | (with_reducible assumption) | ((try dsimp only); with_reducible refine MB.cells8 (W := w) (s := s) (s' := s2) ?_; repeat (first | with_reducible exact K2.out.mb | with_reducible exact K1.out.mb | with_reducible exact K0.out.mb | with_reducible refine MB.drew ?_ | with_reducible refine MB.al ?_ _ | with_reducible refine MB.put ?_ (by assumption) _ _))) (first
        | (go_at_call 47; (with_reducible refine (HA2.out _ K1.out.bel).mono ?_); rintro e w5 ⟨b10, rfl, hp, hb⟩; have K2 := Lib.hid (K1.out.go hb); have P2 := Lib.hid (P1.out.below (hb)); have Q2 := Lib.hid hp; have S2 := K2.out.mb.cells8; obtain ⟨p0, p1, p2, p3, q0, q1, q2, q3⟩ := K2.out.mb.cells8; (try (have zA := K2.out.ixA; obtain ⟨⟨⟨xa0, xa1, xa2⟩, xa3, xa4, xa5⟩, xa6, xa7⟩ := zA)); (try (have zC := K2.out.ne; obtain ⟨xc0, xc1⟩ := zC)); (try (have zB := K2.out.ixB; obtain ⟨⟨⟨xb0, xb1, xb2⟩, xb3, xb4, xb5⟩, xb6, xb7⟩ := zB)); obtain ⟨xr1, xr2⟩ := K2.out.room; clear hp hb)
        | (go_at_call 47; (with_reducible refine (HA2.out _ K1.out.al.bel).mono ?_); rintro e w5 ⟨b10, rfl, hp, hb⟩; have K2 := Lib.hid (K1.out.al.go hb); have P2 := Lib.hid (P1.out.below ((b1 _).trans <| (Below.mono · (by simp)) <| hb)); have Q2 := Lib.hid hp; have S2 := K2.out.mb.cells8; obtain ⟨p0, p1, p2, p3, q0, q1, q2, q3⟩ := K2.out.mb.cells8; (try (have zA := K2.out.ixA; obtain ⟨⟨⟨xa0, xa1, xa2⟩, xa3, xa4, xa5⟩, xa6, xa7⟩ := zA)); (try (have zC := K2.out.ne; obtain ⟨xc0, xc1⟩ := zC)); (try (have zB := K2.out.ixB; obtain ⟨⟨⟨xb0, xb1, xb2⟩, xb3, xb4, xb5⟩, xb6, xb7⟩ := zB)); obtain ⟨xr1, xr2⟩ := K2.out.room; clear hp hb)
        | (go_at_call 47; (with_reducible refine (HA2.out _ K1.out.al2.bel).mono ?_); rintro e w5 ⟨b10, rfl, hp, hb⟩; have K2 := Lib.hid (K1.out.al2.go hb); have P2 := Lib.hid (P1.out.below ((b2 _ _).trans <| (Below.mono · (by simp; omega)) <| hb)); have Q2 := Lib.hid hp; have S2 := K2.out.mb.cells8; obtain ⟨p0, p1, p2, p3, q0, q1, q2, q3⟩ := K2.out.mb.cells8; (try (have zA := K2.out.ixA; obtain ⟨⟨⟨xa0, xa1, xa2⟩, xa3, xa4, xa5⟩, xa6, xa7⟩ := zA)); (try (have zC := K2.out.ne; obtain ⟨xc0, xc1⟩ := zC)); (try (have zB := K2.out.ixB; obtain ⟨⟨⟨xb0, xb1, xb2⟩, xb3, xb4, xb5⟩, xb6, xb7⟩ := zB)); obtain ⟨xr1, xr2⟩ := K2.out.room; clear hp hb)
        | (go_at_call 47; (with_reducible refine (HA.out _ K0.out.drew.bel).mono ?_); rintro e w4 ⟨b9, rfl, hp, hb⟩; have K1 := Lib.hid (K0.out.drew.go hb); have P1 := Lib.hid hp; have S1 := K1.out.mb.cells8; obtain ⟨p0, p1, p2, p3, q0, q1, q2, q3⟩ := K1.out.mb.cells8; clear hp hb)
        | (go_at_call 47; (with_reducible refine (HA.out _ K0.out.al.drew.bel).mono ?_); rintro e w4 ⟨b9, rfl, hp, hb⟩; have K1 := Lib.hid (K0.out.al.drew.go hb); have P1 := Lib.hid hp; have S1 := K1.out.mb.cells8; obtain ⟨p0, p1, p2, p3, q0, q1, q2, q3⟩ := K1.out.mb.cells8; clear hp hb)
        | (go_at_call 47; (with_reducible refine (HA.out _ K0.out.al2.drew.bel).mono ?_); rintro e w4 ⟨b9, rfl, hp, hb⟩; have K1 := Lib.hid (K0.out.al2.drew.go hb); have P1 := Lib.hid hp; have S1 := K1.out.mb.cells8; obtain ⟨p0, p1, p2, p3, q0, q1, q2, q3⟩ := K1.out.mb.cells8; clear hp hb))
      all_goals
        refine hG _ _ _ _ ⟨[_, _, _, _], rfl, rfl⟩ ?_
        first | (with_reducible exact ⟨_, _, _, _, rfl, rfl, Lib.hid (KI.fin K2.out P2.out Q2.out (by first | rfl | (go_simp; done)))⟩) | (with_reducible exact ⟨_, _, _, _, rfl, rfl, Lib.hid (KI.fin' K2.out P2.out Q2.out (by first | rfl | (go_simp; done)))⟩) | (with_reducible exact ⟨_, _, _, _, rfl, rfl, Lib.hid (KI.fin K2.out.al (P2.out.below (b1 _)) (Q2.out.below (b1 _)) (by first | rfl | (go_simp; done)))⟩) | (with_reducible exact ⟨_, _, _, _, rfl, rfl, Lib.hid (KI.fin' K2.out.al (P2.out.below (b1 _)) (Q2.out.below (b1 _)) (by first | rfl | (go_simp; done)))⟩) | (with_reducible exact ⟨_, _, _, _, rfl, rfl, Lib.hid (KI.fin K2.out.al2 (P2.out.below (b2 _ _)) (Q2.out.below (b2 _ _)) (by first | rfl | (go_simp; done)))⟩) | (with_reducible exact ⟨_, _, _, _, rfl, rfl, Lib.hid (KI.fin' K2.out.al2 (P2.out.below (b2 _ _)) (Q2.out.below (b2 _ _)) (by first | rfl | (go_simp; done)))⟩) | trace_state
    · intro aY wY vY uY hoff hX
      obtain ⟨us2, hus2, rfl⟩ := hoff
      obtain ⟨g9, g10, b9, b10, rfl, rfl, J0⟩ := hX
      match us2, hus2 with
      | [y0, y1, y2, y3], _ =>
        simp only [List.set_cons_succ, List.set_cons_zero, List.take_succ_cons, List.take_zero, List.drop_succ_cons, List.drop_zero, List.cons_append, List.nil_append]
        clear S0 p0 p1 p2 p3 q0 q1 q2 q3 MX FX HA HA2
        have HZ := Lib.hid J0.out.all
        have HI : Hid (OwnE wY.heap.size (jn (pA L M lb 0)) (.slice none 0 0) wY ∧ (MJ w S T (.slice a L.length cap) s S T2 (.slice a2 M.length cap2) s2 L M la lb w3.heap.size g9 g10 b9 b10 (s || s2 || jf (pA L M lb 0))) wY ∧ wY.heap.size ≤ wY.heap.size) := Lib.hid ⟨OwnE.empty _ _, by rw [pA_zero]; simpa [jf] using J0.out, Nat.le_refl _⟩
        have hf9 := fun (w' : World) (k : ByteArray) (hb : Below w.heap.size w w') (hp : PosM L L.length b9 w') (hk : k.size ≤ maxLen) => find_any L k la b9 a L.length cap w' (HR.out.below hb) hp ho1 hk (by have := HN.out; omega)
        have hf10 := fun (w' : World) (k : ByteArray) (hb : Below w.heap.size w w') (hp : PosM M M.length b10 w') (hk : k.size ≤ maxLen) => find_any M k lb b10 a2 M.length cap2 w' (HR2.out.below hb) hp ho2 hk (by have := HN.out; omega)
        have HF9 := Lib.hid hf9
        have HF10 := Lib.hid hf10
        clear hf9 hf10
        obtain ⟨⟨p0, p1, p2, p3⟩, ⟨q0, q1, q2, q3⟩, -, -⟩ := J0.out.mb.cells
        go_wp2
        clear p0 p1 p2 p3 q0 q1 q2 q3
        go_loopw [11, 13, 14, 15, 53] (fun v _ _ _ i wr => ∃ j : Nat, j ≤ L.length ∧ i = .int .i64 (j : Int) ∧ Hid (OwnE wY.heap.size (jn (pA L M lb j)) v wr ∧ (MJ w S T (.slice a L.length cap) s S T2 (.slice a2 M.length cap2) s2 L M la lb w3.heap.size g9 g10 b9 b10 (s || s2 || jf (pA L M lb j))) wr ∧ wY.heap.size ≤ wr.heap.size)) (fun _ _ _ _ i _ => L.length - (intOf i).toNat)
        case atStart => exact ⟨0, by omega, rfl, HI⟩
        case round =>
          clear HI J0
          obtain ⟨j, hj, rfl, HI⟩ := hrel
          by_cases hlt : j < L.length
          · have hlt2 : (j : Int) < (L.length : Int) := by omega
            have hlL : (L.length : Int) ≤ 12 := by have := HN.out; omega
            have hrt := (HR.out.below HI.out.2.1.bel)
            obtain ⟨-, a1, cap1, he1, -, -, hc1⟩ := hrt
            simp only [Value.slice.injEq, true_and] at he1
            obtain ⟨rfl, rfl⟩ := he1
            obtain ⟨b, off, rfl, hb, hcell⟩ := hc1 (by omega)
            obtain ⟨c0, c1, c2⟩ := hcell j hlt
            clear hc1 hcell hb
            have hx := hy.at_ j
            have HPS := Lib.hid (pA_succ M lb hlt)
            generalize L.getD j Ent.z = X at *
            have J1 := Lib.hid (HI.out.2.1.al (.cells #[.string X.k, .int .i64 X.c, .int .i64 X.e] 49))
            have O1 := Lib.hid (HI.out.1.alloc (.cells #[.string X.k, .int .i64 X.c, .int .i64 X.e] 49))
            have Z1 : Hid (wY.heap.size ≤ (wr.alloc (.cells #[.string X.k, .int .i64 X.c, .int .i64 X.e] 49)).heap.size) := Lib.hid (Nat.le_trans HI.out.2.2 (b1 _).size)
            have A1 := Lib.hid (At3.new X wr)
            obtain ⟨⟨k0, k1, k2⟩, -⟩ := J1.out.ix10
            have hYok := entAt_ok hy2 hx.1 hlb
            have hE0 := joinE_ok (x := X) (y := entAt M X.k lb) hx.1
            have HJ1 : Hid (pA L M lb (j + 1) = pA L M lb j ++ [(X, entAt M X.k lb)]) := HPS
            have HFX := Lib.hid (fun (w' : World) (hb : Below w.heap.size w w') (hp : PosM M M.length b10 w') => HF10.out w' X.k hb hp hx.1)
            generalize entAt M X.k lb = Y at *
            have HY := Lib.hid (⟨hx, hYok⟩ : X.ok ∧ Y.ok)
            have HE := Lib.hid hE0
            have HLN : Hid ((jn (pA L M lb j)).length + [joinE X Y].length ≤ 1099511627776) := Lib.hid (by have := pA_len L M lb j; have := HN.out; rw [jn_len]; simp; omega)
            clear hx hYok hE0 HPS
            go_wp2_with (first
              | (go_at_call 48; (with_reducible refine (HFX.out _ J1.out.bel J1.out.pos10).mono ?_); rintro e w6 ⟨rfl, hb6⟩; have J6 := Lib.hid ((J1.out.go hb6).al (.cells #[.string Y.k, .int .i64 Y.c, .int .i64 Y.e] 49)); have O6 := Lib.hid ((O1.out.below hb6).alloc (.cells #[.string Y.k, .int .i64 Y.c, .int .i64 Y.e] 49)); have Z6 : Hid (wY.heap.size ≤ (w6.alloc (.cells #[.string Y.k, .int .i64 Y.c, .int .i64 Y.e] 49)).heap.size) := Lib.hid (Nat.le_trans Z1.out (Nat.le_trans hb6.size (b1 _).size)); have A6 := Lib.hid ((A1.out.go hb6).go (b1 (.cells #[.string Y.k, .int .i64 Y.c, .int .i64 Y.e] 49))); have C6 := Lib.hid (At3.new Y w6); obtain ⟨x0, x1, x2⟩ := A6.out.zero; obtain ⟨z0, z1, z2⟩ := C6.out.zero; clear hb6 J1 O1 Z1 A1)
              | (go_at_call 49; (with_reducible refine (join_any X Y w3.heap.size (s || s2 || jf (pA L M lb j)) _ HY.out.1 HY.out.2 J6.out.fl).mono ?_); rintro e w7 ⟨rfl, hf7, ho7⟩; have J7 := Lib.hid ((J6.out.one ho7 hf7).al (.cells #[.string (joinE X Y).k, .int .i64 (joinE X Y).c, .int .i64 (joinE X Y).e] 49)); have O7 := Lib.hid ((O6.out.turn ho7 HZ.out.1).alloc (.cells #[.string (joinE X Y).k, .int .i64 (joinE X Y).c, .int .i64 (joinE X Y).e] 49)); have Z7 : Hid (wY.heap.size ≤ (w7.alloc (.cells #[.string (joinE X Y).k, .int .i64 (joinE X Y).c, .int .i64 (joinE X Y).e] 49)).heap.size) := Lib.hid (Nat.le_trans Z6.out (Nat.le_trans ho7.2.1 (b1 _).size)); have F7 := Lib.hid (OwnE.one HE.out w7).rd.src; clear hf7 ho7 J6 O6 Z6 A6 C6 x0 x1 x2 z0 z1 z2)
              | (at_builtin; refine wp_appE rfl _ _ _ rfl wY.heap.size (jn (pA L M lb j)) [joinE X Y] _ _ rfl rfl O7.out F7.out Z7.out HLN.out ?_; (intro v9 w9 ho9 hb9; have O9 := Lib.hid ho9; have J9 := Lib.hid (J7.out.keep HZ.out hb9); have Z9 : Hid (wY.heap.size ≤ w9.heap.size) := Lib.hid (Nat.le_trans Z7.out hb9.size); clear ho9 hb9 J7 O7 Z7 F7)))
            exact ⟨⟨j + 1, by omega, by go_num, Lib.hid ⟨by rw [HJ1.out, jn_app]; exact O9.out, by rw [HJ1.out, jf_app, ← Bool.or_assoc]; exact J9.out, Z9.out⟩⟩, by simp [intOf]; omega⟩
          · obtain rfl : j = L.length := by omega
            have HI2 : Hid (OwnE wY.heap.size (jn (pB L M la lb 0)) u11 wr ∧ (MJ w S T (.slice a L.length cap) s S T2 (.slice a2 M.length cap2) s2 L M la lb w3.heap.size g9 g10 b9 b10 (s || s2 || jf (pB L M la lb 0))) wr ∧ wY.heap.size ≤ wr.heap.size) := Lib.hid (by rw [← pA_all]; exact HI.out)
            obtain ⟨⟨p0, p1, p2, p3⟩, ⟨q0, q1, q2, q3⟩, -, -⟩ := HI2.out.2.1.mb.cells
            clear HI HF10 hj
            have hlL : ¬ (L.length : Int) < (L.length : Int) := by omega
            go_wp2
            clear p0 p1 p2 p3 q0 q1 q2 q3 hlL
            obtain ⟨wo, hwo⟩ : ∃ wo : World, wo = wr := ⟨_, rfl⟩
            rw [← hwo] at HI2 ⊢
            clear hwo
            go_loopw [11, 17, 18, 19, 74] (fun v _ _ _ i wr => ∃ j : Nat, j ≤ M.length ∧ i = .int .i64 (j : Int) ∧ Hid (OwnE wY.heap.size (jn (pB L M la lb j)) v wr ∧ (MJ w S T (.slice a L.length cap) s S T2 (.slice a2 M.length cap2) s2 L M la lb w3.heap.size g9 g10 b9 b10 (s || s2 || jf (pB L M la lb j))) wr ∧ wY.heap.size ≤ wr.heap.size)) (fun _ _ _ _ i _ => M.length - (intOf i).toNat)
            case atStart => exact ⟨0, by omega, rfl, HI2⟩
            case round =>
              clear HI2
              obtain ⟨j, hj, rfl, HI⟩ := hrel
              by_cases hlt : j < M.length
              · have hlt2 : (j : Int) < (M.length : Int) := by omega
                have hlM : (M.length : Int) ≤ 12 := by have := HN.out; omega
                have hrt := (HR2.out.below HI.out.2.1.bel)
                obtain ⟨-, a1, cap1, he1, -, -, hc1⟩ := hrt
                simp only [Value.slice.injEq, true_and] at he1
                obtain ⟨rfl, rfl⟩ := he1
                obtain ⟨b, off, rfl, hb, hcell⟩ := hc1 (by omega)
                obtain ⟨c0, c1, c2⟩ := hcell j hlt
                clear hc1 hcell hb
                have hx := hy2.at_ j
                have HPO := Lib.hid (fun (h : hasK L (M.getD j Ent.z).k = true) => pB_old la lb hlt h)
                have HPN := Lib.hid (fun (h : hasK L (M.getD j Ent.z).k = false) => pB_new la lb hlt h)
                generalize M.getD j Ent.z = X at *
                have J1 := Lib.hid (HI.out.2.1.al (.cells #[.string X.k, .int .i64 X.c, .int .i64 X.e] 49))
                have O1 := Lib.hid (HI.out.1.alloc (.cells #[.string X.k, .int .i64 X.c, .int .i64 X.e] 49))
                have Z1 : Hid (wY.heap.size ≤ (wr.alloc (.cells #[.string X.k, .int .i64 X.c, .int .i64 X.e] 49)).heap.size) := Lib.hid (Nat.le_trans HI.out.2.2 (b1 _).size)
                have A1 := Lib.hid (At3.new X wr)
                obtain ⟨⟨k0, k1, k2⟩, -⟩ := J1.out.ix9
                have hYok := entAt_ok hy hx.1 hla
                have hE0 := joinE_ok (x := entAt L X.k la) (y := X) (by rw [entAt_key]; exact hx.1)
                have HPN' : Hid (hasK L X.k = false → pB L M la lb (j + 1) = pB L M la lb j ++ [(entAt L X.k la, X)]) := HPN
                have HFX := Lib.hid (fun (w' : World) (hb : Below w.heap.size w w') (hp : PosM L L.length b9 w') => HF9.out w' X.k hb hp hx.1)
                generalize entAt L X.k la = Y at *
                have HY := Lib.hid (⟨hx, hYok⟩ : X.ok ∧ Y.ok)
                have HE := Lib.hid hE0
                have HLN : Hid ((jn (pB L M la lb j)).length + [joinE Y X].length ≤ 1099511627776) := Lib.hid (by have := pB_len L M la lb j; have := HN.out; rw [jn_len]; simp; omega)
                clear hx hYok hE0 HPN
                generalize hk : hasK L X.k = bk at *
                have HK := Lib.hid hk
                clear hk
                cases bk with
                | false =>
                  go_wp2_with (first
                    | (go_at_call 48; (with_reducible refine (HFX.out _ J1.out.bel J1.out.pos9).mono ?_); rintro e w6 ⟨rfl, hb6⟩; have J6 := Lib.hid ((J1.out.go hb6).al (.cells #[.string Y.k, .int .i64 Y.c, .int .i64 Y.e] 49)); have O6 := Lib.hid ((O1.out.below hb6).alloc (.cells #[.string Y.k, .int .i64 Y.c, .int .i64 Y.e] 49)); have Z6 : Hid (wY.heap.size ≤ (w6.alloc (.cells #[.string Y.k, .int .i64 Y.c, .int .i64 Y.e] 49)).heap.size) := Lib.hid (Nat.le_trans Z1.out (Nat.le_trans hb6.size (b1 _).size)); have A6 := Lib.hid ((A1.out.go hb6).go (b1 (.cells #[.string Y.k, .int .i64 Y.c, .int .i64 Y.e] 49))); have C6 := Lib.hid (At3.new Y w6); obtain ⟨x0, x1, x2⟩ := A6.out.zero; obtain ⟨z0, z1, z2⟩ := C6.out.zero; clear hb6 J1 O1 Z1 A1)
                    | (go_at_call 49; (with_reducible refine (join_any Y X w3.heap.size (s || s2 || jf (pB L M la lb j)) _ HY.out.2 HY.out.1 J6.out.fl).mono ?_); rintro e w7 ⟨rfl, hf7, ho7⟩; have J7 := Lib.hid ((J6.out.one ho7 hf7).al (.cells #[.string (joinE Y X).k, .int .i64 (joinE Y X).c, .int .i64 (joinE Y X).e] 49)); have O7 := Lib.hid ((O6.out.turn ho7 HZ.out.1).alloc (.cells #[.string (joinE Y X).k, .int .i64 (joinE Y X).c, .int .i64 (joinE Y X).e] 49)); have Z7 : Hid (wY.heap.size ≤ (w7.alloc (.cells #[.string (joinE Y X).k, .int .i64 (joinE Y X).c, .int .i64 (joinE Y X).e] 49)).heap.size) := Lib.hid (Nat.le_trans Z6.out (Nat.le_trans ho7.2.1 (b1 _).size)); have F7 := Lib.hid (OwnE.one HE.out w7).rd.src; clear hf7 ho7 J6 O6 Z6 A6 C6 x0 x1 x2 z0 z1 z2)
                    | (at_builtin; refine wp_appE rfl _ _ _ rfl wY.heap.size (jn (pB L M la lb j)) [joinE Y X] _ _ rfl rfl O7.out F7.out Z7.out HLN.out ?_; (intro v9 w9 ho9 hb9; have O9 := Lib.hid ho9; have J9 := Lib.hid (J7.out.keep HZ.out hb9); have Z9 : Hid (wY.heap.size ≤ w9.heap.size) := Lib.hid (Nat.le_trans Z7.out hb9.size); clear ho9 hb9 J7 O7 Z7 F7)))
                  exact ⟨⟨j + 1, by omega, by go_num, Lib.hid ⟨by rw [HPN'.out trivial, jn_app]; exact O9.out, by rw [HPN'.out trivial, jf_app, ← Bool.or_assoc]; exact J9.out, Z9.out⟩⟩, by simp [intOf]; omega⟩
                | true =>
                  go_wp2_with (first
                    | (go_at_call 48; (with_reducible refine (HFX.out _ J1.out.bel J1.out.pos9).mono ?_); rintro e w6 ⟨rfl, hb6⟩; have J6 := Lib.hid ((J1.out.go hb6).al (.cells #[.string Y.k, .int .i64 Y.c, .int .i64 Y.e] 49)); have O6 := Lib.hid ((O1.out.below hb6).alloc (.cells #[.string Y.k, .int .i64 Y.c, .int .i64 Y.e] 49)); have Z6 : Hid (wY.heap.size ≤ (w6.alloc (.cells #[.string Y.k, .int .i64 Y.c, .int .i64 Y.e] 49)).heap.size) := Lib.hid (Nat.le_trans Z1.out (Nat.le_trans hb6.size (b1 _).size)); clear hb6 J1 O1 Z1 A1))
                  exact ⟨⟨j + 1, by omega, by go_num, Lib.hid ⟨by rw [HPO.out trivial]; exact O6.out, by rw [HPO.out trivial]; exact J6.out, Z6.out⟩⟩, by simp [intOf]; omega⟩
              · obtain rfl : j = M.length := by omega
                have HL12 : Hid ((jn (pB L M la lb M.length)).length ≤ 12) := Lib.hid (by have := pB_len L M la lb M.length; have := HN.out; rw [jn_len]; omega)
                have HRES : Hid (MR = (sortE (jn (pB L M la lb M.length))).take (min (jn (pB L M la lb M.length)).length S.toNat) ∧ JR = jf (pB L M la lb M.length)) := HRS
                clear HRS HF9
                generalize hP : jn (pB L M la lb M.length) = P at *
                generalize hQ : jf (pB L M la lb M.length) = Q at *
                clear hP hQ
                obtain ⟨a9, cap9, rfl⟩ := HI.out.1.rd.shape
                obtain ⟨m, hm⟩ : ∃ m : Nat, m = min P.length S.toNat := ⟨_, rfl⟩
                have hS := HS.out
                have hm1 : min (P.length : Int) S = (m : Int) := by omega
                have hm0 : (0 : Int) ≤ (m : Int) := by omega
                have hm2 : m ≤ P.length := by omega
                have hm3 : (m : Int) ≤ (P.length : Int) := by omega
                have HMM := Lib.hid hm
                have hcp : (m : Int) ≤ (cap9 : Int) := by
                  obtain ⟨-, a1, cap1, he1, h1, -, -⟩ := HI.out.1.rd
                  simp only [Value.slice.injEq, true_and] at he1
                  obtain ⟨rfl, rfl⟩ := he1
                  omega
                have HM2 := Lib.hid hm2
                have hnlt : ¬ (M.length : Int) < (M.length : Int) := by omega
                clear hm hm2 hS
                have JE := Lib.hid HI.out.2.1
                have OE := Lib.hid HI.out.1
                have HSF := Lib.hid (sortV_any P wY.heap.size a9 P.length cap9 wr HI.out.1 HL12.out HI.out.2.2)
                clear HI HL12 HR HR2 HN
                go_wp2_with (first
                  | (go_at_call 34; (with_reducible refine HSF.out.mono ?_); rintro e w8 ⟨rfl, ho8, hb8⟩; have O8 := Lib.hid ho8; have J8 := Lib.hid (JE.out.keep HZ.out hb8); obtain ⟨⟨p0, p1, p2, p3⟩, ⟨q0, q1, q2, q3⟩, -, -⟩ := J8.out.mb.cells; clear ho8 hb8 JE OE HSF)
                  | (go_at_call 32; (with_reducible refine (padd_one T T2 w3.heap.size (s || s2 || Q) _ T0 T1 U0 U1 J8.out.fl).mono ?_); rintro e w9 ⟨rfl, hf9, ho9⟩; have O9 := Lib.hid (O8.out.turn ho9 HZ.out.1); have J9 := Lib.hid (J8.out.one ho9 hf9); clear p0 p1 p2 p3 q0 q1 q2 q3; obtain ⟨⟨p0, p1, p2, p3⟩, ⟨q0, q1, q2, q3⟩, ⟨o0, o1, o2, o3⟩, g0, g1, g2, g3⟩ := J9.out.mb.cells; obtain ⟨fl0, flf⟩ := J9.out.fl; clear hf9 ho9 J8 O8))
                refine bodyPost_ret (v := .tuple #[.agg #[.int .i64 S, .int .i64 (tS T T2), .slice a9 m cap9, .bool (s || s2 || Q || tF T T2)], .int .i64 0]) (by simp [results, Try.results20, go_sem, *]) rfl ⟨_, rfl, ⟨a9, m, cap9, by rw [HRES.out.2], ?_⟩, ?_⟩
                · rw [HRES.out.1, ← HMM.out]
                  refine OwnE.mono (B := wY.heap.size) ?_ (by have := HZ.out.2.2.2.2.2; omega)
                  have l3 : w.heap.size + 1 + 1 < wY.heap.size := by have := HZ.out.2.2.2.2.2; omega
                  exact ((((O9.out.cut (m := m) (by rw [sortE_len]; exact HM2.out)).keep l3 _ _).keep l3 _ _).keep l3 _ _).keep l3 _ _
                · have l3 : w.heap.size ≤ w.heap.size + 1 + 1 := by omega
                  exact bsetB (bsetB (bsetB (bsetB J9.out.bel _ _ _ l3) _ _ _ l3) _ _ _ l3) _ _ _ l3
end Go.Proofs.Ytcmekpdgikploaa
