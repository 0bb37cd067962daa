/- The contracts of the reference's NewRanks and InsertRanks. -/
import Derived.Test.YtdifilhfmbpalaaDoorRkI
import Derived.Test.YtdifilhfmbpalaaDoorRRkT
import Derived.Test.YtdifilhfmbpalaaDoorRRkD
import Derived.Test.YtdifilhfmbpalaaDoorRRVal
import Derived.Test.YtdifilhfmbpalaaDoorPowR
import Derived.Test.YtdifilhfmbpalaaDoorLastOp
namespace Go.Proofs.YtdifilhfmbpalaaDoor
open Go.RowKit
set_option linter.unusedVariables false
set_option linter.unusedSimpArgs false
set_option maxRecDepth 100000 in
theorem rnewR_any (S : Int) (w : World) (h0 : -9223372036854775808 ≤ S) (h1 : S ≤ 9223372036854775807) :
    Calls Tryd.prog 18 #[.int .i64 S] w fun e w' => ∃ v, e = .returned (.tuple #[v, .int .i64 (newRE S)]) ∧ RbR w.heap.size (newR S) v w' ∧ Below w.heap.size w w' := by
  have hz := fun w => rwithin_any S 2 32 w
  unfold newRE newR
  by_cases hw : 2 ≤ S ∧ S ≤ 32
  · have hm : Int.tmod S 2 = S % 2 := Int.tmod_eq_emod_of_nonneg (by omega)
    have hi : inW S 2 32 = true := by unfold inW; simp; omega
    rw [hi] at hz
    by_cases he : S % 2 = 0
    · have hs : szR S = true := (szR_iff S).2 ⟨hw.1, hw.2, he⟩
      rw [if_pos hs, if_pos hs]
      have he2 : ¬ S % 2 = 1 := by omega
      clear hs hi
      go_enter Tryd.func18, Tryd.ntmps18
      go_wp2_with (go_at_call 43; refine (hz _).mono ?_; rintro e w' ⟨rfl, rfl⟩)
      refine bodyPost_ret (v := .tuple #[.agg #[.int .i64 S, .int .i64 0, .int .i64 0, .slice none 0 0, .bool false], .int .i64 0]) (by simp [results, Tryd.results18, go_sem, *]) rfl ⟨_, rfl, ⟨none, 0, 0, rfl, RdB.none_ _ _⟩, b1 _⟩
    · have hs : ¬ szR S = true := fun h => he ((szR_iff S).1 h).2.2
      rw [if_neg hs, if_neg hs]
      have he2 : S % 2 = 1 := by omega
      clear hs hi
      go_enter Tryd.func18, Tryd.ntmps18
      go_wp2_with (go_at_call 43; refine (hz _).mono ?_; rintro e w' ⟨rfl, rfl⟩)
      refine bodyPost_ret (v := .tuple #[.agg #[.int .i64 0, .int .i64 0, .int .i64 0, .slice none 0 0, .bool false], .int .i64 5]) (by simp [results, Tryd.results18, go_sem, *]) rfl ⟨_, rfl, ⟨none, 0, 0, rfl, RdB.none_ _ _⟩, b1 _⟩
  · have hs : ¬ szR S = true := fun h => hw ⟨((szR_iff S).1 h).1, ((szR_iff S).1 h).2.1⟩
    have hi : inW S 2 32 = false := by unfold inW; simp; omega
    rw [hi] at hz
    rw [if_neg hs, if_neg hs]
    clear hs hi
    go_enter Tryd.func18, Tryd.ntmps18
    go_wp2_with (go_at_call 43; refine (hz _).mono ?_; rintro e w' ⟨rfl, rfl⟩)
    refine bodyPost_ret (v := .tuple #[.agg #[.int .i64 0, .int .i64 0, .int .i64 0, .slice none 0 0, .bool false], .int .i64 5]) (by simp [results, Tryd.results18, go_sem, *]) rfl ⟨_, rfl, ⟨none, 0, 0, rfl, RdB.none_ _ _⟩, b1 _⟩
/-- The memory while powers are put in. -/
def IW (W : World) (B : Nat) (D : List (List ByteArray)) (us : List Value) (v : Value) (PI : List Int) (vp : Value) (w : World) : Prop := MixL W B D us v w ∧ OwnI W.heap.size PI vp w ∧ Below W.heap.size W w
section
variable {W : World} {B : Nat} {D : List (List ByteArray)} {us : List Value} {v : Value} {PI : List Int} {vp : Value} {w w' : World}
theorem IW.bel (h : IW W B D us v PI vp w) : Below W.heap.size W w := h.2.2
theorem IW.bel0 (h : IW W B D us v PI vp w) : W.heap.size ≤ w.heap.size := h.2.2.size
theorem IW.go (h : IW W B D us v PI vp w) (hb : Below w.heap.size w w') : IW W B D us v PI vp w' := ⟨h.1.below hb, h.2.1.below hb, bgo h.2.2 hb⟩
theorem IW.snoc {l : List ByteArray} {u v' : Value} (h : IW W B D us v PI vp w) (hu : RowT W B l u w) (hv : OwnV W.heap.size (us ++ [u]) v' w') (hl : Lone v w w') (hb : Below W.heap.size w w') : IW W B (D ++ [l]) (us ++ [u]) v' PI vp w' :=
  ⟨h.1.snoc hu hv hl, ⟨h.2.1.1, row_lone h.2.1.2 h.1.1.2 (by decide) hl⟩, h.2.2.trans hb⟩
theorem IW.set {l : List ByteArray} {u : Value} {g n cap j : Nat} (h : IW W B D us (.slice (some ⟨g, 0, none⟩) n cap) PI vp w) (hj : j < D.length) (hu : RowT W B l u w) : IW W B (D.set j l) (us.set j u) (.slice (some ⟨g, 0, none⟩) n cap) PI vp (w.setCell ⟨g, j, none⟩ u) :=
  ⟨h.1.set hj hu, ⟨h.2.1.1, row_keep h.2.1.2 (fun k hk e => Below.heap_setCell _ ⟨g, j, none⟩ _ _ (fun e' => by
    have e' : k = g := e'
    subst e'
    exact row_apart h.2.1.2 h.1.1.2 (by decide) e rfl))⟩, bset h.2.2 _ _ _ (h.1.1.lt rfl).1⟩
theorem IW.cell {g n cap : Nat} (h : IW W B D us (.slice (some ⟨g, 0, none⟩) n cap) PI vp w) {k : Nat} (hk : k < D.length) : g < w.heap.size ∧ w.cell? ⟨g, k, none⟩ = some (us.getD k nilS) ∧ w.frozen? ⟨g, k, none⟩ = false := by
  obtain ⟨g', he, -, -, hlt, hc⟩ := h.1.1.cells (by rw [h.1.2.1]; omega)
  cases he
  exact ⟨hlt, hc k (by rw [h.1.2.1]; exact hk)⟩
end
set_option maxRecDepth 100000 in
set_option maxHeartbeats 4000000 in
theorem rinsR_any (t : RK) (k : ByteArray) (x : Int) (v vc : Value) (Z : List Int) (a : Int) (B : Nat) (w : World) (hv : RbR B t v w) (hB : B ≤ w.heap.size) (hok : LOk t.L) (hZ : Rd Z vc w) (x0 : -9223372036854775808 ≤ x) (x1 : x ≤ 9223372036854775807) (hk : k.size ≤ maxLen) :
    Calls Tryd.prog 16 #[v, .agg #[.string k, .int .i64 x], vc, .int .i64 a] w fun e w' =>
      ∃ u, e = .returned (.tuple #[u, .int .i64 (insR t k x Z a).2, .int .i64 (insRE t k x a)]) ∧ RbR B (insR t k x Z a).1 u w' ∧ Below w.heap.size w w' := by
  obtain ⟨S, T, K, L, s⟩ := t
  obtain ⟨aA, cA, rfl, hr⟩ := hv.run
  clear hv
  dsimp only at hr hok ⊢
  have HR := Lib.hid hr
  have HZ := Lib.hid hZ
  have HV := Lib.hid (fun (w' : World) (hb : Below w.heap.size w w') => rvalR_any S T K L s aA L.length cA w' (hr.rd.below hb) hok)
  have hit := fun w => ritem_any k x w hk x0 x1
  have hpo := fun w => rpos_any a w
  have M0 := Lib.hid (MI.new w ⟨S, T, K, L, s⟩ (.slice aA L.length cA) k x)
  clear hr hZ
  unfold insR insRE
  dsimp only
  by_cases hE : valR S T K L = 0
  · rw [hE] at HV
    rw [if_pos hE, if_pos hE]
    by_cases hF : itemE (byt k) x = 0 ∧ posR a = true
    · have hval := valR_ok hE
      have hi := itemR hF.1
      have hpp := posR_iff hF.2
      rw [hF.1] at hit
      rw [hF.2] at hpo
      rw [if_pos hF, if_pos hF]
      have hvt := hval.t0
      have hvt1 := hval.t1
      have HSU : Hid (∀ w1, Calls Tryd.prog 39 #[.int .i64 T, .int .i64 x] w1 fun e w' => e = .returned (.tuple #[.int .i64 (aS T x), .bool (aF T x)]) ∧ w1 = w') := Lib.hid (fun w1 => rsumR_any T x w1 (by omega) (by omega) (by omega) (by omega))
      cases hFl : aF T x with
      | true =>
        rw [hFl] at HSU
        rw [show sumK ⟨S, T, K, L, s⟩ (oneR S k x) Z a = (⟨S, T, K, L, true⟩, a) by unfold sumK oneR; dsimp only; rw [if_pos hFl]]
        clear hval hi hE hF hok hpp hFl
        go_enter Tryd.func16, Tryd.ntmps16
        go_wp2_with (first
          | (go_at_call 21; (with_reducible refine (HV.out _ M0.out.bel).mono ?_); rintro e w2 ⟨rfl, hb2⟩; have M2 := Lib.hid (M0.out.go hb2); obtain ⟨⟨p0, p1, p2, p3, p4⟩, ⟨i0, i1⟩, ⟨o0, o1, o2, o3, o4⟩, y0, y1, y2, y3, y4⟩ := M2.out.cells; clear hb2)
          | (go_at_call 37; (with_reducible refine (hit _).mono ?_); rintro e w3 ⟨rfl, hb3⟩; have M3 := Lib.hid (M2.out.go hb3); clear p0 p1 p2 p3 p4 i0 i1 o0 o1 o2 o3 o4 y0 y1 y2 y3 y4; obtain ⟨⟨p0, p1, p2, p3, p4⟩, ⟨i0, i1⟩, ⟨o0, o1, o2, o3, o4⟩, y0, y1, y2, y3, y4⟩ := M3.out.cells; clear hb3; obtain ⟨z0, z1, z2, z3, z4⟩ := M3.out.1.2)
          | (go_at_call 38; (with_reducible refine (hpo _).mono ?_); rintro e w4 ⟨rfl, rfl⟩)
          | (go_at_call 39; (with_reducible refine (HSU.out _).mono ?_); rintro e w5 ⟨rfl, rfl⟩))
        refine bodyPost_ret (v := .tuple #[.agg #[.int .i64 S, .int .i64 T, .int .i64 K, .slice aA L.length cA, .bool true], .int .i64 a, .int .i64 0]) (by simp [results, Tryd.results16, go_sem, *]) rfl ⟨_, rfl, ⟨_, _, _, rfl, ?_⟩, ?_⟩
        · have l3 : w.heap.size ≤ w.heap.size + 1 + 1 := by omega
          exact HR.out.below (bset (bset (bset (bset (bset (bset M3.out.bel _ _ _ (Nat.le_refl _)) _ _ _ l3) _ _ _ l3) _ _ _ l3) _ _ _ l3) _ _ _ l3)
        · have l3 : w.heap.size ≤ w.heap.size + 1 + 1 := by omega
          exact bset (bset (bset (bset (bset (bset M3.out.bel _ _ _ (Nat.le_refl _)) _ _ _ l3) _ _ _ l3) _ _ _ l3) _ _ _ l3) _ _ _ l3
      | false =>
        rw [hFl] at HSU
        have hvk := hval.k0
        have hvk1 := hval.k1
        obtain ⟨r, hr⟩ : ∃ r, x.toNat = r := ⟨_, rfl⟩
        have hxr : x = (r : Int) := by omega
        have hone := one_val (k := k) hval.s0 hval.s1 hval.ev hi.1 hi.2.1 hi.2.2
        have hsv := sumK_val (A := ⟨S, T, K, L, s⟩) (B := oneR S k x) (Z := Z) (a := a) hval hone
        have hsk : sumK ⟨S, T, K, L, s⟩ (oneR S k x) Z a = (⟨S, aS T x, (stl S Z 0 (joinL L (aloneL k r)) K a).2.1, (stl S Z 0 (joinL L (aloneL k r)) K a).1, s⟩, (stl S Z 0 (joinL L (aloneL k r)) K a).2.2) := by
          unfold sumK oneR
          dsimp only
          rw [if_neg (show ¬ aF T x = true by rw [hFl]; simp), aS_zero hvk hvk1, hr, Bool.or_false]
        rw [hsk] at hsv ⊢
        have h41 := hsv.nl
        dsimp only at h41
        have hr0 : 0 < r := by omega
        have hr1 : r ≤ 1099511627776 := by omega
        have hjl : (joinL L (aloneL k r)).length ≤ 41 := by
          rw [joinL_len]
          have h1 := hval.nl
          have h2 := hone.nl
          rw [hr] at h2
          omega
        have HST := Lib.hid (fun (vl : Value) w1 (h : RdL (joinL L (aloneL k r)) vl w1) (hz : Rd Z vc w1) => rsettle_any (joinL L (aloneL k r)) vl vc Z S a K w1 h hz hval.s0 hval.s1 hpp.1 hpp.2 hvk hvk1 h41 (joinL_last hval.ne (by have h := hone.ne; rw [hr] at h; exact h)) (joinL_rows hval.rows (by have h := hone.rows; rw [hr] at h; exact h)) hjl)
        have HDA : Hid (insD L k (pows r 63) (pows r 63).length = joinL L (aloneL k r)) := Lib.hid (insD_all hr0 hr1)
        have HPW := Lib.hid (fun w1 => ref_powers_any x r w1 (by unfold nat0; omega) (by omega))
        have HPI := Lib.hid (pows_inc r 63)
        have HPL : Hid (∀ i, i ∈ pows r 63 → i ≤ 40) := Lib.hid (fun i => pows_lt41 hr1)
        have HPG : Hid (∀ n ∈ pows r 63, n < 64) := Lib.hid (fun n hn => by have := (pows_iff.1 hn).1; omega)
        have hPn : (pows r 63).length ≤ 63 := pows_le r 63
        have HLR := Lib.hid hval.rows
        have hLn := hval.nl
        generalize stl S Z 0 (joinL L (aloneL k r)) K a = R at *
        generalize joinL L (aloneL k r) = J at *
        generalize pows r 63 = P at *
        clear hval hi hE hF hok hpp hFl hsk hsv hone h41 hjl hr hxr
        go_enter Tryd.func16, Tryd.ntmps16
        go_upto_region 13 with (first
          | (go_at_call 21; (with_reducible refine (HV.out _ M0.out.bel).mono ?_); rintro e w2 ⟨rfl, hb2⟩; have M2 := Lib.hid (M0.out.go hb2); obtain ⟨⟨p0, p1, p2, p3, p4⟩, ⟨i0, i1⟩, ⟨o0, o1, o2, o3, o4⟩, y0, y1, y2, y3, y4⟩ := M2.out.cells; clear hb2)
          | (go_at_call 37; (with_reducible refine (hit _).mono ?_); rintro e w3 ⟨rfl, hb3⟩; have M3 := Lib.hid (M2.out.go hb3); clear p0 p1 p2 p3 p4 i0 i1 o0 o1 o2 o3 o4 y0 y1 y2 y3 y4; obtain ⟨⟨p0, p1, p2, p3, p4⟩, ⟨i0, i1⟩, ⟨o0, o1, o2, o3, o4⟩, y0, y1, y2, y3, y4⟩ := M3.out.cells; clear hb3)
          | (go_at_call 38; (with_reducible refine (hpo _).mono ?_); rintro e w4 ⟨rfl, rfl⟩)
          | (go_at_call 39; (with_reducible refine (HSU.out _).mono ?_); rintro e w5 ⟨rfl, rfl⟩))
        have h3 := M3.out.lt
        obtain ⟨usL, hUL⟩ := HR.out.below M3.out.bel
        have hU0 := hUL w3 (Nat.le_refl _) (fun _ _ _ => rfl)
        have hUn : usL.length = L.length := hU0.2.1
        have HSRC := Lib.hid hU0.1.src
        have HROW := Lib.hid (fun (w7 : World) (hb : Below w3.heap.size w3 w7) => (hUL.rows hb).2)
        have hB3 : B ≤ w3.heap.size := by omega
        clear hUL hU0
        obtain ⟨N, hN⟩ : ∃ N, P.length = N := ⟨_, rfl⟩
        have HN := Lib.hid hN
        rw [hN] at hPn
        have HPIL : Hid ((P.map fun n : Nat => (n : Int)).length = N) := Lib.hid (by rw [List.length_map]; exact hN)
        have HGD : Hid (∀ j, j < N → (P.map fun n : Nat => (n : Int)).getD j 0 = ((P.getD j 0 : Nat) : Int)) := Lib.hid (fun j hj => by simp [List.getD, hN, hj])
        clear hN
        go_wp2_with (first
          | (at_builtin; refine wp_appV rfl _ _ _ rfl w3.heap.size [] usL _ _ rfl rfl (OwnV.empty _ _) HSRC.out (Nat.le_refl _) (by rw [List.length_nil]; omega) ?_; intro v7 w7 ho7 hb7 hl7; rw [List.nil_append] at ho7; have X7 : Hid (MixL w3 B L usL v7 w7) := Lib.hid ⟨ho7, hUn, HROW.out _ hb7⟩; have B7 := Lib.hid hb7; have j1 := ((bcell hb7).1 (w.heap.size + 1) 1 (by omega)).trans i1; clear ho7 hb7 hl7)
          | (go_at_call 40; (with_reducible refine (HPW.out _).mono ?_); rintro e w8 ⟨vp, rfl, hm8, hb8⟩; have I8 : Hid (IW w3 B (insD L k P 0) usL v7 (P.map fun n : Nat => (n : Int)) vp w8) := Lib.hid ⟨by rw [insD_zero]; exact X7.out.below hb8, (made_own hm8 HPG.out).mono B7.out.size, bgo B7.out hb8⟩; clear hm8 hb8))
        obtain ⟨ap, cp, rfl⟩ := I8.out.2.1.rd.shape
        rw [HPIL.out] at I8 ⊢
        clear X7 B7 j1 HSRC HROW HPG HPW HR HV hit hpo HSU M0 M2
        go_loopw [15, 17] (fun lv iv wr => ∃ (j : Nat) (us1 : List Value), j ≤ N ∧ iv = .int .i64 (j : Int) ∧ Hid (IW w3 B (insD L k P j) us1 lv (P.map fun n : Nat => (n : Int)) (.slice ap N cp) wr)) (fun _ iv _ => N - (intOf iv).toNat)
        case atStart => exact ⟨0, usL, Nat.zero_le _, rfl, I8⟩
        case round =>
          clear I8
          obtain ⟨j, us1, hj, rfl, HI⟩ := hrel
          by_cases hlt : j < N
          · have hlt2 : (j : Int) < (N : Int) := by omega
            obtain ⟨bp, op, rfl, hbp, hcp⟩ := HI.out.2.1.rd.cellI (k := j) (by rw [HPIL.out]; exact hlt)
            rw [HGD.out j hlt] at hcp
            have HPJ : Hid ((P.map fun n : Nat => (n : Int)).getD j 0 = ((P.getD j 0 : Nat) : Int)) := Lib.hid (HGD.out j hlt)
            have hp40 := HPL.out (P.getD j 0) (getD_mem (by rw [HN.out]; exact hlt))
            have HSET := Lib.hid (insD_succ (L := L) (k := k) HPI.out (show j < P.length by rw [HN.out]; exact hlt))
            have HNXT := Lib.hid (insD_next (L := L) (k := k) HPI.out (show j < P.length by rw [HN.out]; exact hlt))
            have hDl : (insD L k P j).length ≤ 41 := by
              rw [insD_len]
              have h1 := topJ_le HPI.out (show j < P.length by rw [HN.out]; exact hlt)
              omega
            have HLR2 : Hid ((L.getD (P.getD j 0) []).length ≤ 31) := Lib.hid (getD_all (p := fun l => l.length ≤ 31) HLR.out (Nat.zero_le _) _)
            generalize P.getD j 0 = p at *
            generalize insD L k P j = D at *
            generalize L.getD p [] = l0 at *
            have hpn : (j : Int) < (N : Int) := hlt2
            have HI0 : Hid (IW w3 B (padD D D.length) us1 u15 (P.map fun n : Nat => (n : Int)) (.slice (some ⟨bp, op, none⟩) N cp) wr) := Lib.hid (by rw [padD_self D _ (Nat.le_refl _)]; exact HI.out)
            clear HI
            go_wp2
            go_loopw [15] (fun lv wr => ∃ (n : Nat) (us2 : List Value), D.length ≤ n ∧ n ≤ 41 ∧ (n ≤ p + 1 ∨ n = D.length) ∧ Hid (us2.length = n) ∧ Hid (IW w3 B (padD D n) us2 lv (P.map fun n : Nat => (n : Int)) (.slice (some ⟨bp, op, none⟩) N cp) wr) ∧ lenOf lv = n) (fun lv _ => 50 - lenOf lv)
            case atStart =>
              obtain ⟨a15, c15, h15⟩ := HI0.out.1.1.rd.shape
              have hul : us1.length = D.length := by rw [HI0.out.1.2.1, padD_self D _ (Nat.le_refl _)]
              exact ⟨D.length, us1, Nat.le_refl _, hDl, .inr rfl, Lib.hid hul, HI0, by rw [h15, hul]; rfl⟩
            case round =>
              clear HI0
              obtain ⟨n, us2, hn1, hn41, hn2, HUL, HI, hlen⟩ := hrel
              obtain ⟨a2, c2, rfl⟩ := HI.out.1.1.rd.shape
              have hcp2 : wr.cell? ⟨bp, op + j, none⟩ = some (.int .i64 (p : Int)) := by
                obtain ⟨b', o', he, -, hc⟩ := HI.out.2.1.rd.cellI (k := j) (by rw [HPIL.out]; exact hlt)
                cases he
                rw [hc, HPJ.out]
              rw [HUL.out]
              by_cases hle : n ≤ p
              · have hle2 : (n : Int) ≤ (p : Int) := by omega
                have HA := Lib.hid (HI.out.go (b1 (.cells #[nilS] 57)))
                have HPS := Lib.hid (padD_succ D n hn1)
                go_wp2_with (at_builtin; refine wp_appV rfl _ _ _ rfl w3.heap.size us2 [nilS] _ _ rfl rfl (by have h := HA.out.1.1; rw [HUL.out] at h; exact h) (OwnV.one rfl wr).rd.src HA.out.bel.size (by have := HUL.out; simp; omega) ?_; intro v9 w9 ho9 hb9 hl9; have hs9 := HA.out.snoc (RowT.nil_ w3 B _) ho9 (by rw [HUL.out]; exact hl9) hb9; rw [HPS.out] at hs9; have I9 := Lib.hid hs9; have L9 : Hid (lenOf v9 = n + 1) := Lib.hid (by obtain ⟨a9, c9, rfl⟩ := ho9.rd.shape; show (us2 ++ [nilS]).length = n + 1; rw [List.length_append, HUL.out]; rfl); clear ho9 hb9 hl9 hs9)
                exact ⟨⟨n + 1, us2 ++ [nilS], by omega, by omega, .inl (by omega), Lib.hid (by rw [List.length_append, HUL.out]; rfl), I9, L9.out⟩, by rw [L9.out]; show 50 - (n + 1) < 50 - n; omega⟩
              · have hle2 : (p : Int) < (n : Int) := by omega
                have HE : Hid (padD D n = padD D (p + 1)) := Lib.hid (by
                  rcases hn2 with h | h
                  · rw [show n = p + 1 by omega]
                  · rw [padD_self D n (by omega), padD_self D (p + 1) (by omega)])
                have hEn : (padD D n).length = n := by rw [padD_len]; omega
                rw [HE.out] at HI hEn
                obtain ⟨g, rfl, -, -, -, -⟩ := HI.out.1.1.cells (by rw [HUL.out]; omega)
                have hpn2 : p < (padD D (p + 1)).length := by rw [hEn]; omega
                have hrow := HI.out.1.2.2 p hpn2
                rw [HNXT.out] at hrow
                obtain ⟨hgl, hcc, hff⟩ := HI.out.cell hpn2
                have hbl : bp < wr.heap.size := by
                  obtain ⟨b', o', he, hb', -⟩ := HI.out.2.1.rd.cellI (k := j) (by rw [HPIL.out]; exact hlt)
                  cases he
                  exact hb'
                obtain ⟨U, hU⟩ : ∃ U, us2.getD p nilS = U := ⟨_, rfl⟩
                rw [hU] at hrow hcc
                have HU2 := Lib.hid hU
                obtain ⟨aU, cU, rfl⟩ := hrow.rd.shape
                have hca := ((bcell (b1 (a := wr) (.cells #[.string k] 9))).1 g p hgl).trans hcc
                have hcb := ((bcell (b1 (a := wr) (.cells #[.string k] 9))).1 bp (op + j) hbl).trans hcp2
                have hkc := ((bcell HI.out.bel).1 (w.heap.size + 1) 0 (by omega)).trans i0
                have HSR2 := Lib.hid (fun (w' : World) (hb : Below wr.heap.size wr w') => (hrow.rd.below hb).src)
                rw [HUL.out] at HI
                have HGO := Lib.hid (fun (w' : World) (hb : Below wr.heap.size wr w') => HI.out.go hb)
                have HPN := Lib.hid hpn2
                have H3R := Lib.hid HI.out.bel0
                have HI0K := Lib.hid i0
                have h31 : w.heap.size + 1 < w3.heap.size := by omega
                clear hU hrow HI HPIL HGD HPI HPL HLR HST HDA HNXT
                go_wp2
                refine wp_meet 70 18 (fun wx => ∃ us3, Hid (IW w3 B (insD L k P (j + 1)) us3 (.slice (some ⟨g, 0, none⟩) n c2) (P.map fun n : Nat => (n : Int)) (.slice (some ⟨bp, op, none⟩) N cp) wx)) ?_ ?_
                · intro G hG
                  clear p0 p1 p2 p3 p4 i0 i1 o0 o1 o2 o3 o4 y0 y1 y2 y3 y4 h3 hle hn1 hn41 hn2 hDl hEn hLn hUn hvt hvt1 hvk hvk1 x0 x1 hk hr0 hr1 hPn hp40 HPJ
                  refine wp_region_last (S := fun w' => w'.cell? ⟨bp, op + j, none⟩ = some (.int .i64 (p : Int)) ∧ w'.cell? ⟨g, p, none⟩ = some (.slice aU l0.length cU) ∧ w'.cell? ⟨w.heap.size + 1, 0, none⟩ = some (.string k)) (by simp) (by kernel_rfl) (by kernel_rfl) ⟨hcp2, hcc, hkc⟩ (fun hH0 => ?_)
                  simp only [List.dropLast_cons_cons, List.dropLast_singleton, List.getLast_cons_cons, List.getLast_singleton]
                  have HSS : Hid (∀ w' : World, Below wr.heap.size wr w' → w'.cell? ⟨bp, op + j, none⟩ = some (.int .i64 (p : Int)) ∧ w'.cell? ⟨g, p, none⟩ = some (.slice aU l0.length cU) ∧ w'.cell? ⟨w.heap.size + 1, 0, none⟩ = some (.string k)) := Lib.hid (fun w' hb => ⟨((bcell hb).1 bp (op + j) hbl).trans hcp2, ((bcell hb).1 g p hgl).trans hcc, ((bcell (HGO.out _ hb).bel).1 (w.heap.size + 1) 0 h31).trans HI0K.out⟩)
                  clear hca hcb hkc hcc hcp hcp2 hff
                  refine wpAnyH_take (i := 0) (v := ?_) rfl (by kernel_rfl) (by kernel_rfl) (by kernel_rfl) (fun _ _ _ h => h) (Or.inl ⟨by rfl, ?_⟩) hH0 ?_
                  rotate_left
                  · intro w hSw; (try dsimp only at hSw); obtain ⟨hs0, hs1, hs2⟩ := hSw; (try simp only [List.getElem_toArray, List.getElem_cons_zero, List.getElem_cons_succ]); go_simp <;> with_reducible rfl
                  try simp only [Act.put, List.getElem_toArray, List.getElem_cons_zero, List.getElem_cons_succ, List.setIfInBounds_toArray, List.set_cons_zero, List.set_cons_succ]
                  refine wpAnyH_take (i := 1) (v := ?_) rfl (by kernel_rfl) (by kernel_rfl) (by kernel_rfl) (fun _ _ _ h => h) (Or.inl ⟨by rfl, ?_⟩) hH0 ?_
                  rotate_left
                  · intro w hSw; (try dsimp only at hSw); obtain ⟨hs0, hs1, hs2⟩ := hSw; (try simp only [List.getElem_toArray, List.getElem_cons_zero, List.getElem_cons_succ]); go_simp <;> with_reducible rfl
                  try simp only [Act.put, List.getElem_toArray, List.getElem_cons_zero, List.getElem_cons_succ, List.setIfInBounds_toArray, List.set_cons_zero, List.set_cons_succ]
                  refine wpAnyH_take (i := 2) (v := ?_) rfl (by kernel_rfl) (by kernel_rfl) (by kernel_rfl) (fun _ _ _ h => h) (Or.inl ⟨by rfl, ?_⟩) hH0 ?_
                  rotate_left
                  · intro w hSw; (try dsimp only at hSw); obtain ⟨hs0, hs1, hs2⟩ := hSw; (try simp only [List.getElem_toArray, List.getElem_cons_zero, List.getElem_cons_succ]); go_simp <;> with_reducible rfl
                  try simp only [Act.put, List.getElem_toArray, List.getElem_cons_zero, List.getElem_cons_succ, List.setIfInBounds_toArray, List.set_cons_zero, List.set_cons_succ]
                  refine wpAnyH_take (i := 3) (v := ?_) rfl (by kernel_rfl) (by kernel_rfl) (by kernel_rfl) (fun _ _ _ h => h) (Or.inl ⟨by rfl, ?_⟩) hH0 ?_
                  rotate_left
                  · intro w hSw; (try dsimp only at hSw); obtain ⟨hs0, hs1, hs2⟩ := hSw; (try simp only [List.getElem_toArray, List.getElem_cons_zero, List.getElem_cons_succ]); go_simp <;> with_reducible rfl
                  try simp only [Act.put, List.getElem_toArray, List.getElem_cons_zero, List.getElem_cons_succ, List.setIfInBounds_toArray, List.set_cons_zero, List.set_cons_succ]
                  refine wpAnyH_take (i := 4) (v := ?_) rfl (by kernel_rfl) (by kernel_rfl) (by kernel_rfl) (fun _ _ _ h => h) (Or.inl ⟨by rfl, ?_⟩) hH0 ?_
                  rotate_left
                  · intro w hSw; (try dsimp only at hSw); obtain ⟨hs0, hs1, hs2⟩ := hSw; (try simp only [List.getElem_toArray, List.getElem_cons_zero, List.getElem_cons_succ]); go_simp <;> with_reducible rfl
                  try simp only [Act.put, List.getElem_toArray, List.getElem_cons_zero, List.getElem_cons_succ, List.setIfInBounds_toArray, List.set_cons_zero, List.set_cons_succ]
                  refine wpAnyH_take (i := 5) (v := ?_) rfl (by kernel_rfl) (by kernel_rfl) (by kernel_rfl) (fun _ _ _ h => h) (Or.inl ⟨by rfl, ?_⟩) hH0 ?_
                  rotate_left
                  · intro w hSw; (try dsimp only at hSw); obtain ⟨hs0, hs1, hs2⟩ := hSw; (try simp only [List.getElem_toArray, List.getElem_cons_zero, List.getElem_cons_succ]); go_simp <;> with_reducible rfl
                  try simp only [Act.put, List.getElem_toArray, List.getElem_cons_zero, List.getElem_cons_succ, List.setIfInBounds_toArray, List.set_cons_zero, List.set_cons_succ]
                  refine wpAnyH_take (i := 6) (v := ?_) rfl (by kernel_rfl) (by kernel_rfl) (by kernel_rfl) (fun _ _ _ h => h) (Or.inl ⟨by rfl, ?_⟩) hH0 ?_
                  rotate_left
                  · intro w hSw; (try dsimp only at hSw); obtain ⟨hs0, hs1, hs2⟩ := hSw; (try simp only [List.getElem_toArray, List.getElem_cons_zero, List.getElem_cons_succ]); go_simp <;> with_reducible rfl
                  try simp only [Act.put, List.getElem_toArray, List.getElem_cons_zero, List.getElem_cons_succ, List.setIfInBounds_toArray, List.set_cons_zero, List.set_cons_succ]
                  refine wpAnyH_take (i := 7) (v := ?_) rfl (by kernel_rfl) (by kernel_rfl) (by kernel_rfl) (fun _ _ _ h => h) (Or.inl ⟨by rfl, ?_⟩) hH0 ?_
                  rotate_left
                  · intro w hSw; (try dsimp only at hSw); obtain ⟨hs0, hs1, hs2⟩ := hSw; (try simp only [List.getElem_toArray, List.getElem_cons_zero, List.getElem_cons_succ]); go_simp <;> with_reducible rfl
                  try simp only [Act.put, List.getElem_toArray, List.getElem_cons_zero, List.getElem_cons_succ, List.setIfInBounds_toArray, List.set_cons_zero, List.set_cons_succ]
                  refine wpAnyH_take (i := 8) (v := ?_) rfl (by kernel_rfl) (by kernel_rfl) (by kernel_rfl) (fun _ _ _ h => h) (Or.inl ⟨by rfl, ?_⟩) hH0 ?_
                  rotate_left
                  · intro w hSw; (try dsimp only at hSw); obtain ⟨hs0, hs1, hs2⟩ := hSw; (try simp only [List.getElem_toArray, List.getElem_cons_zero, List.getElem_cons_succ]); go_simp <;> with_reducible rfl
                  try simp only [Act.put, List.getElem_toArray, List.getElem_cons_zero, List.getElem_cons_succ, List.setIfInBounds_toArray, List.set_cons_zero, List.set_cons_succ]
                  refine wpAnyH_take (i := 9) (v := ?_) rfl (by kernel_rfl) (by kernel_rfl) (by kernel_rfl) (fun _ _ _ h => h) (Or.inl ⟨by rfl, ?_⟩) hH0 ?_
                  rotate_left
                  · intro w hSw; (try dsimp only at hSw); obtain ⟨hs0, hs1, hs2⟩ := hSw; (try simp only [List.getElem_toArray, List.getElem_cons_zero, List.getElem_cons_succ]); go_simp <;> with_reducible rfl
                  try simp only [Act.put, List.getElem_toArray, List.getElem_cons_zero, List.getElem_cons_succ, List.setIfInBounds_toArray, List.set_cons_zero, List.set_cons_succ]
                  refine wpAnyH_take (i := 10) (v := ?_) rfl (by kernel_rfl) (by kernel_rfl) (by kernel_rfl) (fun _ _ _ h => h) (Or.inl ⟨by rfl, ?_⟩) hH0 ?_
                  rotate_left
                  · intro w hSw; (try dsimp only at hSw); obtain ⟨hs0, hs1, hs2⟩ := hSw; (try simp only [List.getElem_toArray, List.getElem_cons_zero, List.getElem_cons_succ]); go_simp <;> with_reducible rfl
                  try simp only [Act.put, List.getElem_toArray, List.getElem_cons_zero, List.getElem_cons_succ, List.setIfInBounds_toArray, List.set_cons_zero, List.set_cons_succ]
                  refine wpAnyH_take (i := 11) (v := ?_) rfl (by kernel_rfl) (by kernel_rfl) (by kernel_rfl) (fun _ _ _ h => h) (Or.inl ⟨by rfl, ?_⟩) hH0 ?_
                  rotate_left
                  · intro w hSw; (try dsimp only at hSw); obtain ⟨hs0, hs1, hs2⟩ := hSw; (try simp only [List.getElem_toArray, List.getElem_cons_zero, List.getElem_cons_succ]); go_simp <;> with_reducible rfl
                  try simp only [Act.put, List.getElem_toArray, List.getElem_cons_zero, List.getElem_cons_succ, List.setIfInBounds_toArray, List.set_cons_zero, List.set_cons_succ]
                  refine wpAnyH_take (i := 13) (v := ?_) rfl (by kernel_rfl) (by kernel_rfl) (by kernel_rfl) (fun _ _ _ h => h) (Or.inl ⟨by rfl, ?_⟩) hH0 ?_
                  rotate_left
                  · intro w hSw; (try dsimp only at hSw); obtain ⟨hs0, hs1, hs2⟩ := hSw; (try simp only [List.getElem_toArray, List.getElem_cons_zero, List.getElem_cons_succ]); go_simp <;> with_reducible rfl
                  try simp only [Act.put, List.getElem_toArray, List.getElem_cons_zero, List.getElem_cons_succ, List.setIfInBounds_toArray, List.set_cons_zero, List.set_cons_succ]
                  refine wpAnyH_take (i := 14) (v := ?_) rfl (by kernel_rfl) (by kernel_rfl) (by kernel_rfl) (fun _ _ _ h => h) (Or.inl ⟨by rfl, ?_⟩) hH0 ?_
                  rotate_left
                  · intro w hSw; (try dsimp only at hSw); obtain ⟨hs0, hs1, hs2⟩ := hSw; (try simp only [List.getElem_toArray, List.getElem_cons_zero, List.getElem_cons_succ]); go_simp <;> with_reducible rfl
                  try simp only [Act.put, List.getElem_toArray, List.getElem_cons_zero, List.getElem_cons_succ, List.setIfInBounds_toArray, List.set_cons_zero, List.set_cons_succ]
                  refine wpAnyH_ready (rs := [12, 15]) (by kernel_rfl) (by simp) ?_
                  refine AllReadyH.cons rfl (fun KK hK => ?_) (AllReadyH.cons rfl (fun KK hK => ?_) AllReadyH.nil)
                  · show ite _ _ _
                    refine step_appS (w := wr.drew) rfl _ _ _ rfl wr.heap.size [] l0 (.slice none 0 0) (.slice aU l0.length cU) rfl rfl (OwnS.empty _ _) (HSR2.out _ (Below.refl _ _).drew) (Nat.le_refl _) (by have := HLR2.out; rw [List.length_nil]; omega) ?_
                    intro v7 w7 ho7 hb7; rw [List.nil_append] at ho7; obtain ⟨a7, c7, rfl⟩ := ho7.rd.shape; have O7 := Lib.hid ho7; have B7 : Hid (Below wr.heap.size wr w7) := Lib.hid ((Below.refl _ _).drew.trans hb7); clear ho7 hb7
                    refine hK.out _ _ (HSS.out _ B7.out) (fun hH1 => ?_)
                    clear hK KK hH0
                    try simp only [Act.put, List.getElem_toArray, List.getElem_cons_zero, List.getElem_cons_succ, List.setIfInBounds_toArray, List.set_cons_zero, List.set_cons_succ]
                    refine wpAnyH_ready (rs := [15]) (by kernel_rfl) (by simp) ?_
                    refine AllReadyH.cons rfl (fun KK hK => ?_) AllReadyH.nil
                    (dsimp only [List.getElem_toArray, List.getElem_cons_zero, List.getElem_cons_succ])
                    rw [if_pos (by rfl)]
                    go_simp
                    refine hK.out _ _ (HSS.out _ (bal B7.out _)) (fun hH2 => ?_)
                    clear hK KK hH1
                    try simp only [Act.put, List.getElem_toArray, List.getElem_cons_zero, List.getElem_cons_succ, List.setIfInBounds_toArray, List.set_cons_zero, List.set_cons_succ]
                    refine wpAnyH_ready (rs := [16]) (by kernel_rfl) (by simp) ?_
                    refine AllReadyH.cons rfl (fun KK hK => ?_) AllReadyH.nil
                    show ite _ _ _
                    refine step_appS rfl _ _ _ rfl wr.heap.size l0 [k] _ _ rfl rfl (O7.out.below (b1 _)) ((OwnS.one k w7).rd.src) (Nat.le_trans B7.out.size (b1 (a := w7) _).size) (by have := HLR2.out; simp; omega) ?_
                    intro v8 w8 ho8 hb8; obtain ⟨a8, c8, rfl⟩ := ho8.rd.shape; have B8 : Hid (Below wr.heap.size wr w8) := Lib.hid ((bal B7.out _).trans hb8); have I8 := Lib.hid (HGO.out _ B8.out); obtain ⟨hg8, hx8, hxf8⟩ := I8.out.cell HPN.out; have S8 := Lib.hid (I8.out.set HPN.out (RowT.own ho8 (Nat.le_trans hB3 H3R.out))); clear ho8 hb8
                    refine hK.out _ _ (HSS.out _ B8.out) (fun hH3 => ?_)
                    clear hK KK hH2
                    try simp only [Act.put, List.getElem_toArray, List.getElem_cons_zero, List.getElem_cons_succ, List.setIfInBounds_toArray, List.set_cons_zero, List.set_cons_succ]
                    refine wpAnyH_take (i := 17) (v := ?_) rfl (by kernel_rfl) (by kernel_rfl) (by kernel_rfl) (fun _ _ _ h => h) (Or.inl ⟨by rfl, ?_⟩) hH3 ?_
                    rotate_left
                    · intro w hSw; (try dsimp only at hSw); obtain ⟨hs0, hs1, hs2⟩ := hSw; (try simp only [List.getElem_toArray, List.getElem_cons_zero, List.getElem_cons_succ]); go_simp <;> with_reducible rfl
                    try simp only [Act.put, List.getElem_toArray, List.getElem_cons_zero, List.getElem_cons_succ, List.setIfInBounds_toArray, List.set_cons_zero, List.set_cons_succ]
                    refine wpAnyH_done (by kernel_rfl) ?_ _
                    intro KK hK
                    go_simp
                    refine hK.out _ _ ?_
                    exact hG _ _ ⟨[_, _, _, _, _, _, _, _, _, _, _, _, _, _, _, _, _, _], rfl, rfl⟩ ⟨_, Lib.hid (by have h := S8.out; rw [HSET.out] at h; first | exact h | (simp only [List.length_append, List.length_singleton] at h ⊢; exact h))⟩
                  · (dsimp only [List.getElem_toArray, List.getElem_cons_zero, List.getElem_cons_succ])
                    rw [if_pos (by rfl)]
                    go_simp
                    have B6 : Hid (Below wr.heap.size wr (wr.alloc (.cells #[.string k] 9)).drew) := Lib.hid (b1 _).drew
                    have hs6 : wr.heap.size + 1 ≤ (wr.alloc (.cells #[.string k] 9)).drew.heap.size := by show _ ≤ (wr.alloc _).heap.size; simp
                    refine hK.out _ _ (HSS.out _ B6.out) (fun hH1 => ?_)
                    clear hK KK hH0
                    try simp only [Act.put, List.getElem_toArray, List.getElem_cons_zero, List.getElem_cons_succ, List.setIfInBounds_toArray, List.set_cons_zero, List.set_cons_succ]
                    refine wpAnyH_ready (rs := [12]) (by kernel_rfl) (by simp) ?_
                    refine AllReadyH.cons rfl (fun KK hK => ?_) AllReadyH.nil
                    show ite _ _ _
                    refine step_appS rfl _ _ _ rfl (wr.heap.size + 1) [] l0 (.slice none 0 0) (.slice aU l0.length cU) rfl rfl (OwnS.empty _ _) (HSR2.out _ B6.out) hs6 (by have := HLR2.out; rw [List.length_nil]; omega) ?_
                    intro v7 w7 ho7 hb7; rw [List.nil_append] at ho7; obtain ⟨a7, c7, rfl⟩ := ho7.rd.shape; have O7 := Lib.hid ho7; have HB7 := Lib.hid hb7; have B7 : Hid (Below wr.heap.size wr w7) := Lib.hid (B6.out.trans (hb7.mono (Nat.le_succ _))); have hs7 := Nat.le_trans hs6 hb7.size; clear ho7 hb7
                    refine hK.out _ _ (HSS.out _ B7.out) (fun hH2 => ?_)
                    clear hK KK hH1
                    try simp only [Act.put, List.getElem_toArray, List.getElem_cons_zero, List.getElem_cons_succ, List.setIfInBounds_toArray, List.set_cons_zero, List.set_cons_succ]
                    refine wpAnyH_ready (rs := [16]) (by kernel_rfl) (by simp) ?_
                    refine AllReadyH.cons rfl (fun KK hK => ?_) AllReadyH.nil
                    show ite _ _ _
                    refine step_appS rfl _ _ _ rfl (wr.heap.size + 1) l0 [k] _ _ rfl rfl O7.out (((((OwnS.one k wr).below (Below.refl _ _).drew).rd.below (HB7.out.mono (Nat.le_of_eq (by show (wr.alloc _).heap.size = _; simp)))).src)) hs7 (by have := HLR2.out; simp; omega) ?_
                    intro v8 w8 ho8 hb8; obtain ⟨a8, c8, rfl⟩ := ho8.rd.shape; have B8 : Hid (Below wr.heap.size wr w8) := Lib.hid (B7.out.trans (hb8.mono (Nat.le_succ _))); have I8 := Lib.hid (HGO.out _ B8.out); obtain ⟨hg8, hx8, hxf8⟩ := I8.out.cell HPN.out; have S8 := Lib.hid (I8.out.set HPN.out (RowT.own ho8 (Nat.le_succ_of_le (Nat.le_trans hB3 H3R.out)))); clear ho8 hb8
                    refine hK.out _ _ (HSS.out _ B8.out) (fun hH3 => ?_)
                    clear hK KK hH2
                    try simp only [Act.put, List.getElem_toArray, List.getElem_cons_zero, List.getElem_cons_succ, List.setIfInBounds_toArray, List.set_cons_zero, List.set_cons_succ]
                    refine wpAnyH_take (i := 17) (v := ?_) rfl (by kernel_rfl) (by kernel_rfl) (by kernel_rfl) (fun _ _ _ h => h) (Or.inl ⟨by rfl, ?_⟩) hH3 ?_
                    rotate_left
                    · intro w hSw; (try dsimp only at hSw); obtain ⟨hs0, hs1, hs2⟩ := hSw; (try simp only [List.getElem_toArray, List.getElem_cons_zero, List.getElem_cons_succ]); go_simp <;> with_reducible rfl
                    try simp only [Act.put, List.getElem_toArray, List.getElem_cons_zero, List.getElem_cons_succ, List.setIfInBounds_toArray, List.set_cons_zero, List.set_cons_succ]
                    refine wpAnyH_done (by kernel_rfl) ?_ _
                    intro KK hK
                    go_simp
                    refine hK.out _ _ ?_
                    exact hG _ _ ⟨[_, _, _, _, _, _, _, _, _, _, _, _, _, _, _, _, _, _], rfl, rfl⟩ ⟨_, Lib.hid (by have h := S8.out; rw [HSET.out] at h; first | exact h | (simp only [List.length_append, List.length_singleton] at h ⊢; exact h))⟩
                · clear hca hcb hkc HSR2 HGO HPN H3R HSET hcc hff hgl hbl hcp hcp2
                  intro a' wz hoff hX
                  obtain ⟨us, hus, rfl⟩ := hoff
                  obtain ⟨us3, HX⟩ := hX
                  match us, hus with
                  | [u0, u1, u2, u3, u4, u5, u6, u7, u8, u9, u10, u11, u12, u13, u14, u15, u16, u17], _ =>
                    simp only [List.take_succ_cons, List.take_zero, List.drop_succ_cons, List.drop_zero, List.cons_append, List.nil_append]
                    go_wp2
                    exact ⟨⟨j + 1, us3, by omega, by go_num, HX⟩, by simp [intOf]; omega⟩
          · obtain rfl : j = N := by omega
            have hnlt : ¬ (j : Int) < (j : Int) := by omega
            have hda := HDA.out
            rw [HN.out] at hda
            rw [hda] at HI
            obtain ⟨a5, c5, rfl⟩ := HI.out.1.1.rd.shape
            have MW := Lib.hid (M3.out.go HI.out.bel)
            have HRJ := Lib.hid HI.out.1.rd
            have HZR := Lib.hid (HZ.out.below MW.out.bel)
            have h3r : w.heap.size + 3 ≤ wr.heap.size := by
              have h := HI.out.bel.size
              omega
            clear p0 p1 p2 p3 p4 i0 i1 o0 o1 o2 o3 o4 y0 y1 y2 y3 y4 hda HI
            obtain ⟨⟨p0, p1, p2, p3, p4⟩, ⟨i0, i1⟩, ⟨o0, o1, o2, o3, o4⟩, y0, y1, y2, y3, y4⟩ := MW.out.cells
            go_wp2_with (go_at_call 41; (with_reducible refine (HST.out _ _ HRJ.out HZR.out).mono ?_); rintro e w9 ⟨u9, rfl, ho9, hb9⟩; obtain ⟨a9, c9, rfl⟩ := ho9.rd.shape; have M9 := Lib.hid (MW.out.go hb9); have O9 := Lib.hid (ho9.mono (B' := w.heap.size + 3) h3r); clear p0 p1 p2 p3 p4 i0 i1 o0 o1 o2 o3 o4 y0 y1 y2 y3 y4 ho9 hb9; obtain ⟨⟨p0, p1, p2, p3, p4⟩, ⟨i0, i1⟩, ⟨o0, o1, o2, o3, o4⟩, y0, y1, y2, y3, y4⟩ := M9.out.cells)
            have HX2 := FiveS.put (R := ⟨S, aS T x, R.2.1, R.1, s⟩) M9.out.2.2.1 O9.out M9.out.bel (by omega)
            refine bodyPost_ret (v := .tuple #[.agg #[.int .i64 S, .int .i64 (aS T x), .int .i64 R.2.1, .slice a9 R.1.length c9, .bool s], .int .i64 R.2.2, .int .i64 0]) (by simp [results, Tryd.results16, go_sem, *]) rfl ⟨_, rfl, ⟨_, _, _, rfl, HX2.2.1.mono (by omega)⟩, HX2.2.2⟩
    · rw [if_neg hF, if_neg hF]
      by_cases hI : itemE (byt k) x = 0
      · have hP : posR a = false := by
          cases hp : posR a with
          | false => rfl
          | true => exact absurd ⟨hI, hp⟩ hF
        rw [hI] at hit
        rw [hP] at hpo
        rw [if_pos hI]
        clear hF hI hP
        go_enter Tryd.func16, Tryd.ntmps16
        go_wp2_with (first
          | (go_at_call 21; (with_reducible refine (HV.out _ M0.out.bel).mono ?_); rintro e w2 ⟨rfl, hb2⟩; have M2 := Lib.hid (M0.out.go hb2); obtain ⟨⟨p0, p1, p2, p3, p4⟩, ⟨i0, i1⟩, ⟨o0, o1, o2, o3, o4⟩, y0, y1, y2, y3, y4⟩ := M2.out.cells; clear hb2)
          | (go_at_call 37; (with_reducible refine (hit _).mono ?_); rintro e w3 ⟨rfl, hb3⟩; have M3 := Lib.hid (M2.out.go hb3); clear p0 p1 p2 p3 p4 i0 i1 o0 o1 o2 o3 o4 y0 y1 y2 y3 y4; obtain ⟨⟨p0, p1, p2, p3, p4⟩, ⟨i0, i1⟩, ⟨o0, o1, o2, o3, o4⟩, y0, y1, y2, y3, y4⟩ := M3.out.cells; clear hb3)
          | (go_at_call 38; (with_reducible refine (hpo _).mono ?_); rintro e w4 ⟨rfl, rfl⟩))
        refine bodyPost_ret (v := .tuple #[.agg #[.int .i64 0, .int .i64 0, .int .i64 0, .slice none 0 0, .bool false], .int .i64 0, .int .i64 (5)]) (by simp [results, Tryd.results16, go_sem, *]) rfl ⟨_, rfl, ⟨none, 0, 0, rfl, RdB.none_ _ _⟩, ?_⟩
        have l3 : w.heap.size ≤ w.heap.size + 1 + 1 := by omega
        exact bset (bset (bset (bset (bset M3.out.2.2.2 _ _ _ l3) _ _ _ l3) _ _ _ l3) _ _ _ l3) _ _ _ l3
      · have hF2 : (itemE (byt k) x != 0) = true := by simpa using hI
        rw [if_neg hI]
        clear hF hI
        go_enter Tryd.func16, Tryd.ntmps16
        go_wp2_with (first
          | (go_at_call 21; (with_reducible refine (HV.out _ M0.out.bel).mono ?_); rintro e w2 ⟨rfl, hb2⟩; have M2 := Lib.hid (M0.out.go hb2); obtain ⟨⟨p0, p1, p2, p3, p4⟩, ⟨i0, i1⟩, ⟨o0, o1, o2, o3, o4⟩, y0, y1, y2, y3, y4⟩ := M2.out.cells; clear hb2)
          | (go_at_call 37; (with_reducible refine (hit _).mono ?_); rintro e w3 ⟨rfl, hb3⟩; have M3 := Lib.hid (M2.out.go hb3); clear p0 p1 p2 p3 p4 i0 i1 o0 o1 o2 o3 o4 y0 y1 y2 y3 y4; obtain ⟨⟨p0, p1, p2, p3, p4⟩, ⟨i0, i1⟩, ⟨o0, o1, o2, o3, o4⟩, y0, y1, y2, y3, y4⟩ := M3.out.cells; clear hb3))
        refine bodyPost_ret (v := .tuple #[.agg #[.int .i64 0, .int .i64 0, .int .i64 0, .slice none 0 0, .bool false], .int .i64 0, .int .i64 (itemE (byt k) x)]) (by simp [results, Tryd.results16, go_sem, *]) rfl ⟨_, rfl, ⟨none, 0, 0, rfl, RdB.none_ _ _⟩, ?_⟩
        have l3 : w.heap.size ≤ w.heap.size + 1 + 1 := by omega
        exact bset (bset (bset (bset (bset M3.out.2.2.2 _ _ _ l3) _ _ _ l3) _ _ _ l3) _ _ _ l3) _ _ _ l3
  · have hE2 : (valR S T K L != 0) = true := by simpa using hE
    rw [if_neg hE, if_neg hE]
    clear hE
    go_enter Tryd.func16, Tryd.ntmps16
    go_wp2_with (go_at_call 21; (with_reducible refine (HV.out _ M0.out.bel).mono ?_); rintro e w2 ⟨rfl, hb2⟩; have M2 := Lib.hid (M0.out.go hb2); obtain ⟨⟨p0, p1, p2, p3, p4⟩, ⟨i0, i1⟩, ⟨o0, o1, o2, o3, o4⟩, y0, y1, y2, y3, y4⟩ := M2.out.cells; clear hb2)
    refine bodyPost_ret (v := .tuple #[.agg #[.int .i64 0, .int .i64 0, .int .i64 0, .slice none 0 0, .bool false], .int .i64 0, .int .i64 (valR S T K L)]) (by simp [results, Tryd.results16, go_sem, *]) rfl ⟨_, rfl, ⟨none, 0, 0, rfl, RdB.none_ _ _⟩, ?_⟩
    have l3 : w.heap.size ≤ w.heap.size + 1 + 1 := by omega
    exact bset (bset (bset (bset (bset M2.out.2.2.2 _ _ _ l3) _ _ _ l3) _ _ _ l3) _ _ _ l3) _ _ _ l3
end Go.Proofs.YtdifilhfmbpalaaDoor
