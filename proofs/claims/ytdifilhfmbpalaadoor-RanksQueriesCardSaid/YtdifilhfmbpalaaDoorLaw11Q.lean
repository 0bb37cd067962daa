/- The contract of the reference's Rank; the walk of the law RanksQueries. -/
import Derived.Test.YtdifilhfmbpalaaDoorRkL
import Derived.Test.YtdifilhfmbpalaaDoorSpoilR
import Derived.Test.YtdifilhfmbpalaaDoorMadeR
import Derived.Test.YtdifilhfmbpalaaDoorRkQZ
import Derived.Deep.RegionHeld3
namespace Go.Proofs.YtdifilhfmbpalaaDoor
open Go.RowKit
set_option linter.unusedVariables false
set_option linter.unusedSimpArgs false
set_option maxRecDepth 100000 in
set_option maxHeartbeats 2000000 in
theorem rrkR_any (t : RK) (v : Value) (k : ByteArray) (w : World) (hv : RdR t v w) (hok : LOk t.L) (hk : k.size ≤ maxLen) :
    Calls Tryd.prog 26 #[v, .string k] w fun e w' => e = .returned (.tuple #[.int .i64 (rkR t k), .int .i64 (rkRE t k)]) ∧ Below w.heap.size w w' := by
  obtain ⟨S, T, K, L, s⟩ := t
  obtain ⟨a, c, rfl, hr⟩ := hv.run
  clear hv
  dsimp only at hr hok ⊢
  have HV := Lib.hid (fun (w' : World) (hb : Below w.heap.size w w') => rvalR_any S T K L s a L.length c w' (hr.below hb) hok)
  have hky := fun w => risKey_any k w hk
  have HR0 := Lib.hid (fun (w2 : World) (hb2 : Below (w.alloc (.cells #[.int .i64 S, .int .i64 T, .int .i64 K, .slice a L.length c, .bool s] 28)).heap.size (w.alloc (.cells #[.int .i64 S, .int .i64 T, .int .i64 K, .slice a L.length c, .bool s] 28)) w2) => ((RsS.new S T K (.slice a L.length c) s 28 w).go hb2).1)
  unfold rkR rkRE
  dsimp only
  by_cases hE : valR S T K L = 0
  · rw [hE] at HV
    rw [if_pos hE, if_pos hE]
    have hval := valR_ok hE
    have HRK := Lib.hid (fun (w' : World) (hb : Below w.heap.size w w') => rrank_any ⟨S, T, K, L, s⟩ (.agg #[.int .i64 S, .int .i64 T, .int .i64 K, .slice a L.length c, .bool s]) k w' ⟨_, _, _, rfl, hr.below hb⟩ hok hval.rows hval.nl (by have := hval.sum; have := hval.t1; dsimp only; omega) hk)
    dsimp only at HRK
    generalize rnkN k 0 L = R at *
    clear hval hE hr hok
    cases hK : keyB (byt k)
    all_goals
      rw [hK] at hky
      go_enter Tryd.func26, Tryd.ntmps26
      go_wp2_with (first
        | (go_at_call 21; (with_reducible refine (HV.out _ (b1 _)).mono ?_); rintro e w2 ⟨rfl, hb2⟩; obtain ⟨p0, p1, p2, p3, p4⟩ := HR0.out _ hb2; have B2 := Lib.hid (bgo (b1 _) hb2); clear hb2)
        | (go_at_call 47; (with_reducible refine (hky _).mono ?_); rintro e w3 ⟨rfl, rfl⟩)
        | (go_at_call 50; (with_reducible refine (HRK.out _ B2.out).mono ?_); rintro e w4 ⟨rfl, hb4⟩; have B4 := Lib.hid (bgo B2.out hb4); clear hb4))
      go_ret2
      first
        | exact ⟨rfl, B4.out⟩
        | exact ⟨rfl, B2.out⟩
  · have hE2 : (valR S T K L != 0) = true := by simpa using hE
    rw [if_neg hE, if_neg hE]
    clear hE hr hok
    go_enter Tryd.func26, Tryd.ntmps26
    go_wp2_with (go_at_call 21; (with_reducible refine (HV.out _ (b1 _)).mono ?_); rintro e w2 ⟨rfl, hb2⟩; have B2 := Lib.hid (bgo (b1 _) hb2); clear hb2)
    go_ret2
    exact ⟨rfl, B2.out⟩
set_option maxRecDepth 100000 in
set_option maxHeartbeats 8000000 in
theorem ranksQueries_walk (S : Int) (al : Option Addr) (ln cap : Nat) (z : List Int) (bl : Option Addr) (lm cbp : Nat) (y : List Int) (n num den : Int) (W : World) (wa : (Lit.int .i64 S).wf = true) (w0 : InRow .i64 W al ln cap z) (w1 : InRow .u8 W bl lm cbp y) (wn : (Lit.int .i64 n).wf = true) (wu : (Lit.int .i64 num).wf = true) (wd : (Lit.int .i64 den).wf = true) (ht : TabP W) :
    Calls Tryd.prog 5 #[.int .i64 S, .slice al ln cap, .slice bl lm cbp, .int .i64 n, .int .i64 num, .int .i64 den] W fun e w' => e = .returned (.bool true) ∧ Below W.heap.size W w' := by
  obtain ⟨S0, S1⟩ := wf_bd wa
  obtain ⟨n0, n1⟩ := wf_bd wn
  have HZ := Lib.hid (inRow_rd w1)
  have HT := Lib.hid ht
  have h1 := madeR_any S (z.take ln) (y.take lm) _ _ W S0 S1 (inRow_rdJ w0) (inRow_rd w1)
  have hm := madeR_val S (z.take ln) (y.take lm)
  generalize madeR S (z.take ln) (y.take lm) = cm at *
  generalize y.take lm = Z at *
  have h2 := Lib.hid (fun (B : Nat) (v : Value) (w : World) (hv : RbR B cm v w) (hB : B ≤ w.heap.size) => spoilR_any B cm v n w hm hv hB n0 n1)
  have hsh := fun w (hb : Below W.heap.size W w) => short_any Z _ w (HZ.out.below hb)
  have hkn := Lib.hid (fun w (hb : Below W.heap.size W w) => knownR_any w (HT.out.below hb))
  have hky := Lib.hid (fun w => key_any (n / 256) w (by omega) (by omega))
  have hks := keyS_bd (n / 256)
  have HK := Lib.hid (show (keyS (n / 256)).size ≤ maxLen by unfold maxLen; omega)
  have m1 := mask4s num
  have m2 := mask4s den
  have e1 : 0 ≤ num % 16 ∧ num % 16 ≤ 15 := by omega
  have e2 : 0 ≤ den % 16 ∧ den % 16 ≤ 15 := by omega
  generalize keyS (n / 256) = K at *
  generalize num % 16 = num2 at *
  generalize den % 16 = den2 at *
  obtain ⟨e20, e21⟩ := e2
  have hP := Lib.hid (fun (c : RK) (hc : LOk c.L) (v : Value) (w : World) (hv : RdR c v w) => prank_any c v K w hv hc HK.out)
  have hR := Lib.hid (fun (c : RK) (hc : LOk c.L) (v : Value) (w : World) (hv : RdR c v w) => rrkR_any c v K w hv hc HK.out)
  clear wa wn w0 w1 wu wd hks hm ht
  by_cases hs : Z.length ≤ 100
  · rw [decide_eq_true hs] at hsh
    go_enter Tryd.func5, Tryd.ntmps5
    go_upto_region 4 with (first
      | (go_at_call 10; (with_reducible refine (hsh _ (Below.refl _ _)).mono ?_); rintro e w' ⟨rfl, rfl⟩)
      | (go_at_call 13; (with_reducible refine h1.mono ?_); rintro e w2 ⟨v2, rfl, hr2, hb2⟩; have O2 := Lib.hid hr2; have B2 := Lib.hid hb2; clear h1 hr2 hb2)
      | (go_at_call 12; (with_reducible refine (h2.out _ _ _ O2.out B2.out.size).mono ?_); rintro e w3 ⟨c, v3, rfl, hwc, hlc, ⟨a3, n3, c3, rfl, ho3⟩, hb3⟩; have HLc := Lib.hid hlc.lok; have S3 := Lib.hid (SkR.new ho3); have B3 := Lib.hid (bal (bgo B2.out hb3) (.cells #[.int .i64 c.S, .int .i64 c.T, .int .i64 c.K, .slice a3 n3 c3, .bool c.s] 28)); clear h2 hwc hlc ho3 hb3 B2 O2))
    generalize w3.alloc (.cells #[.int .i64 c.S, .int .i64 c.T, .int .i64 c.K, .slice a3 n3 c3, .bool c.s] 28) = X at *
    have HP1 := Lib.hid (fun (w : World) (hb : Below X.heap.size X w ∧ w.cell? ⟨w3.heap.size, 0, none⟩ = some (.int .i64 c.S) ∧ w.cell? ⟨w3.heap.size, 1, none⟩ = some (.int .i64 c.T) ∧ w.cell? ⟨w3.heap.size, 2, none⟩ = some (.int .i64 c.K) ∧ w.cell? ⟨w3.heap.size, 3, none⟩ = some (.slice a3 n3 c3) ∧ w.cell? ⟨w3.heap.size, 4, none⟩ = some (.bool c.s)) => hP.out c HLc.out _ w (S3.out.go hb.1).rd)
    have HR1 := Lib.hid (fun (w : World) (hb : Below X.heap.size X w ∧ w.cell? ⟨w3.heap.size, 0, none⟩ = some (.int .i64 c.S) ∧ w.cell? ⟨w3.heap.size, 1, none⟩ = some (.int .i64 c.T) ∧ w.cell? ⟨w3.heap.size, 2, none⟩ = some (.int .i64 c.K) ∧ w.cell? ⟨w3.heap.size, 3, none⟩ = some (.slice a3 n3 c3) ∧ w.cell? ⟨w3.heap.size, 4, none⟩ = some (.bool c.s)) => hR.out c HLc.out _ w (S3.out.go hb.1).rd)
    have SB : Hid (∀ w u : World, (Below X.heap.size X w ∧ w.cell? ⟨w3.heap.size, 0, none⟩ = some (.int .i64 c.S) ∧ w.cell? ⟨w3.heap.size, 1, none⟩ = some (.int .i64 c.T) ∧ w.cell? ⟨w3.heap.size, 2, none⟩ = some (.int .i64 c.K) ∧ w.cell? ⟨w3.heap.size, 3, none⟩ = some (.slice a3 n3 c3) ∧ w.cell? ⟨w3.heap.size, 4, none⟩ = some (.bool c.s)) → Below w.heap.size w u → (Below X.heap.size X u ∧ u.cell? ⟨w3.heap.size, 0, none⟩ = some (.int .i64 c.S) ∧ u.cell? ⟨w3.heap.size, 1, none⟩ = some (.int .i64 c.T) ∧ u.cell? ⟨w3.heap.size, 2, none⟩ = some (.int .i64 c.K) ∧ u.cell? ⟨w3.heap.size, 3, none⟩ = some (.slice a3 n3 c3) ∧ u.cell? ⟨w3.heap.size, 4, none⟩ = some (.bool c.s))) := Lib.hid (fun w u h hb => ⟨bgo h.1 hb, (S3.out.go (bgo h.1 hb)).cells⟩)
    have HKY := Lib.hid (fun (w : World) => hky.out w)
    obtain ⟨p0, p1, p2, p3, p4⟩ := S3.out.cells
    have P1 := Lib.hid (fun (v : Value) (w : World) (hv : RdR c v w) => pqt_any c num den v w hv HLc.out)
    have R1 := Lib.hid (fun (v : Value) (w : World) (hv : RdR c v w) => rqt_any c num den v w hv HLc.out)
    have P2 := Lib.hid (fun (v : Value) (w : World) (hv : RdR c v w) => pqt_any c num2 (1 + den2) v w hv HLc.out)
    have R2 := Lib.hid (fun (v : Value) (w : World) (hv : RdR c v w) => rqt_any c num2 (1 + den2) v w hv HLc.out)
    clear hP hR hky HK HLc
    go_region_held3 (fun w' => Below X.heap.size X w' ∧ w'.cell? ⟨w3.heap.size, 0, none⟩ = some (.int .i64 c.S) ∧ w'.cell? ⟨w3.heap.size, 1, none⟩ = some (.int .i64 c.T) ∧ w'.cell? ⟨w3.heap.size, 2, none⟩ = some (.int .i64 c.K) ∧ w'.cell? ⟨w3.heap.size, 3, none⟩ = some (.slice a3 n3 c3) ∧ w'.cell? ⟨w3.heap.size, 4, none⟩ = some (.bool c.s)) (first | assumption | exact ⟨(Below.refl _ _).drew, p0, p1, p2, p3, p4⟩) (first
      | (go_at_call 25; ((with_reducible refine (HKY.out _).mono ?_); rintro e w' ⟨rfl, hbl⟩; have S1 := SB.out _ w' (by assumption) hbl; clear hbl))
      | (go_at_call 24; ((with_reducible refine (HP1.out _ (by assumption)).mono ?_); rintro e w' ⟨rfl, hbl⟩; have S1 := SB.out _ w' (by assumption) hbl; clear hbl)))
    rename_i hS
    obtain ⟨hs0, q0, q1, q2, q3, q4⟩ := hS
    go_upto_region 5 with (fail)
    clear p0 p1 p2 p3 p4
    go_region_held3 (fun w' => Below X.heap.size X w' ∧ w'.cell? ⟨w3.heap.size, 0, none⟩ = some (.int .i64 c.S) ∧ w'.cell? ⟨w3.heap.size, 1, none⟩ = some (.int .i64 c.T) ∧ w'.cell? ⟨w3.heap.size, 2, none⟩ = some (.int .i64 c.K) ∧ w'.cell? ⟨w3.heap.size, 3, none⟩ = some (.slice a3 n3 c3) ∧ w'.cell? ⟨w3.heap.size, 4, none⟩ = some (.bool c.s)) (first | assumption | exact ⟨hs0.drew, q0, q1, q2, q3, q4⟩) (first
      | (go_at_call 25; ((with_reducible refine (HKY.out _).mono ?_); rintro e w' ⟨rfl, hbl⟩; have S1 := SB.out _ w' (by assumption) hbl; clear hbl))
      | (go_at_call 26; ((with_reducible refine (HR1.out _ (by assumption)).mono ?_); rintro e w' ⟨rfl, hbl⟩; have S1 := SB.out _ w' (by assumption) hbl; clear hbl)))
    rename_i hS2
    obtain ⟨hs1, r0, r1, r2, r3, r4⟩ := hS2
    clear q0 q1 q2 q3 q4
    have HS6 := Lib.hid hs1
    go_wp2_with (first
      | (go_at_call 27; (with_reducible refine (P1.out _ _ (S3.out.go HS6.out).rd).mono ?_); rintro e w7 ⟨q7, rfl, hq7, hb7⟩; have HQ7 := Lib.hid hq7; have HS7 := Lib.hid (bgo HS6.out hb7); clear P1 hq7 hb7 r0 r1 r2 r3 r4 HS6; obtain ⟨r0, r1, r2, r3, r4⟩ := (S3.out.go HS7.out).cells)
      | (go_at_call 28; (with_reducible refine (R1.out _ _ (S3.out.go HS7.out).rd).mono ?_); rintro e w8 ⟨q8, rfl, hq8, hb8⟩; obtain rfl := hq8.uniq HQ7.out; have HS8 := Lib.hid (bgo HS7.out hb8); clear R1 hq8 hb8 r0 r1 r2 r3 r4 HS7 HQ7; obtain ⟨r0, r1, r2, r3, r4⟩ := (S3.out.go HS8.out).cells)
      | (go_at_call 27; (with_reducible refine (P2.out _ _ (S3.out.go HS8.out).rd).mono ?_); rintro e w9 ⟨q9, rfl, hq9, hb9⟩; have HQ9 := Lib.hid hq9; have HS9 := Lib.hid (bgo HS8.out hb9); clear P2 hq9 hb9 r0 r1 r2 r3 r4 HS8; obtain ⟨r0, r1, r2, r3, r4⟩ := (S3.out.go HS9.out).cells)
      | (go_at_call 28; (with_reducible refine (R2.out _ _ (S3.out.go HS9.out).rd).mono ?_); rintro e w10 ⟨q10, rfl, hq10, hb10⟩; obtain rfl := hq10.uniq HQ9.out; have HS10 := Lib.hid (bgo HS9.out hb10); clear R2 hq10 hb10 r0 r1 r2 r3 r4 HS9 HQ9)
      | (go_at_call 11; (with_reducible refine (hkn.out _ (bgo B3.out HS10.out)).mono ?_); rintro e w11 ⟨rfl, hb11⟩; have B11 := Lib.hid (bgo (bgo B3.out HS10.out) hb11); clear hb11))
    go_ret
    exact ⟨rfl, B11.out⟩
  · rw [decide_eq_false hs] at hsh
    go_enter Tryd.func5, Tryd.ntmps5
    go_wp2_with (first
      | (go_at_call 10; (with_reducible refine (hsh _ (Below.refl _ _)).mono ?_); rintro e w' ⟨rfl, rfl⟩)
      | (go_at_call 11; (with_reducible refine (hkn.out _ (Below.refl _ _)).mono ?_); rintro e w2 ⟨rfl, hb2⟩; have B2 := Lib.hid hb2; clear hb2))
    go_ret
    exact ⟨rfl, B2.out⟩
end Go.Proofs.YtdifilhfmbpalaaDoor
