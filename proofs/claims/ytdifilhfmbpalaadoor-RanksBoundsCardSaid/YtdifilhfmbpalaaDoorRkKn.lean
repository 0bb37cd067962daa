/- The document's example of rank summaries: the law's own check. -/
import Derived.Test.YtdifilhfmbpalaaDoorRkV
import Derived.Test.YtdifilhfmbpalaaDoorRkR
namespace Go.Proofs.YtdifilhfmbpalaaDoor
open Go.RowKit
set_option linter.unusedVariables false
set_option linter.unusedSimpArgs false
theorem lessBA : lessK ⟨#[98]⟩ ⟨#[97]⟩ = false := by
  unfold lessK
  rw [Lib.toList_data, Lib.toList_data]
  rfl
theorem sort_one (x : ByteArray) : sortK [x] = [x] := rfl
theorem sort_ab : sortK [⟨#[97]⟩, ⟨#[98]⟩] = [⟨#[97]⟩, ⟨#[98]⟩] := by
  have e : sortK [⟨#[97]⟩, ⟨#[98]⟩] = sinkK [⟨#[97]⟩, ⟨#[98]⟩] 1 := rfl
  rw [e]
  unfold sinkK
  exact if_neg (by show ¬ lessK ⟨#[98]⟩ ⟨#[97]⟩ = true; rw [lessBA]; simp)
theorem iR1 : itemE (byt ⟨#[97]⟩) 1 = 0 := by decide +kernel
theorem iR2 : itemE (byt ⟨#[98]⟩) 1 = 0 := by decide +kernel
theorem kA : keyB (byt ⟨#[97]⟩) = true := by decide +kernel
theorem vR0 : ValR 2 0 0 [] := (Kn.new (S := 2) (by decide) ⟨#[]⟩).v
theorem insR_at {t : RK} {k : ByteArray} {x : Int} {Z : List Int} {a : Int} (h : ValR t.S t.T t.K t.L) (hi : itemE (byt k) x = 0) (ha : posR a = true) : insR t k x Z a = sumK t (oneR t.S k x) Z a ∧ insRE t k x a = 0 := by
  constructor
  · unfold insR; rw [if_pos (valR_of h), if_pos ⟨hi, ha⟩]
  · unfold insRE; rw [if_pos (valR_of h), if_pos ⟨hi, ha⟩]
theorem Kn.ins {k x : ByteArray} {t : RK} {D : Nat} {r : Int} (h : Kn k t D) (hk : keyB (byt x) = true) (r0 : 1 ≤ r) (r1 : r ≤ 4294967295) (hT : t.T + r ≤ 1099511627776) (Z : List Int) (a : Int) (ha : posR a = true) :
    Kn k (insR t x r Z a).1 (D + (if lessK k x = true then 0 else r.toNat)) ∧ (insR t x r Z a).1.T = t.T + r ∧ (insR t x r Z a).1.s = t.s ∧ (insR t x r Z a).1.S = t.S ∧ insRE t x r a = 0 := by
  have hi : itemE (byt x) r = 0 := by
    unfold itemE
    rw [hk, if_neg (by simp), if_neg (by omega)]
  obtain ⟨h1, h2⟩ := insR_at (Z := Z) h.v hi ha
  rw [h1]
  have hone := Kn.one (k := k) h.v.s0 h.v.s1 h.v.ev hk r0 r1
  have hF : aF t.T (oneR t.S x r).T = false := by
    have := h.v.t0
    unfold aF satF nat0
    rw [decide_eq_false_iff_not]
    show ¬ (1099511627776 : Int) < max t.T 0 + max r 0
    omega
  obtain ⟨h3, h4, h5, h6⟩ := h.sum hone Z a hF
  exact ⟨h3, h4, by rw [h5]; show (t.s || false) = t.s; simp, h6, h2⟩
theorem kR1 : insR ⟨2, 0, 0, [], false⟩ ⟨#[97]⟩ 1 [] 0 = (⟨2, 1, 0, [[⟨#[97]⟩]], false⟩, 0) := by
  rw [(insR_at vR0 iR1 (by decide)).1]
  have hj : joinL [] (aloneL ⟨#[97]⟩ 1) = [[⟨#[97]⟩]] := by kernel_rfl
  have hs : stl 2 [] 0 [[⟨#[97]⟩]] 0 0 = ([[⟨#[97]⟩]], 0, 0) := by
    rw [stl_low _ _ _ _ _ (by simp), stl_nil]
    rfl
  unfold sumK oneR
  dsimp only
  rw [if_neg (by decide), show aS 0 0 = 0 by decide, show Int.toNat 1 = 1 from rfl, hj, hs]
  rfl
theorem kR2 : insR ⟨2, 1, 0, [[⟨#[97]⟩]], false⟩ ⟨#[98]⟩ 1 [] 0 = (⟨2, 2, 1, [[], [⟨#[97]⟩]], false⟩, 1) := by
  have h1 := (Kn.new (S := 2) (by decide) ⟨#[]⟩).ins (x := ⟨#[97]⟩) kA (r := 1) (by decide) (by decide) (by decide) [] 0 (by decide)
  rw [kR1] at h1
  rw [(insR_at h1.1.v iR2 (by decide)).1]
  have hj : joinL [[⟨#[97]⟩]] (aloneL ⟨#[98]⟩ 1) = [[⟨#[97]⟩, ⟨#[98]⟩]] := by kernel_rfl
  have hs : stl 2 [] 0 [[⟨#[97]⟩, ⟨#[98]⟩]] 0 0 = ([[], [⟨#[97]⟩]], 1, 1) := by
    rw [stl_full _ _ _ _ _ (by simp) (by decide), sort_ab, show addC [] (pick (bitI [] 0).toNat [⟨#[97]⟩, ⟨#[98]⟩]) = [[⟨#[97]⟩]] from rfl, stl_low _ _ _ _ _ (by simp), stl_nil, sort_one, show rst [(⟨#[97]⟩ : ByteArray), ⟨#[98]⟩] = [] from rfl]
    rfl
  unfold sumK oneR
  dsimp only
  rw [if_neg (by decide), show aS 0 0 = 0 by decide, show Int.toNat 1 = 1 from rfl, hj, hs]
  rfl
theorem kOk0 : LOk [] := ⟨by simp, by simp⟩
theorem lR (t : RK) (h : ValR t.S t.T t.K t.L) : LOk t.L := h.lok
theorem vR1 : ValR 2 1 0 [[⟨#[97]⟩]] := by
  have h1 := (Kn.new (S := 2) (by decide) ⟨#[]⟩).ins (x := ⟨#[97]⟩) kA (r := 1) (by decide) (by decide) (by decide) [] 0 (by decide)
  rw [kR1] at h1
  exact h1.1.v
theorem vR2 : ValR 2 2 1 [[], [⟨#[97]⟩]] := by
  have h1 := (Kn.new (S := 2) (by decide) ⟨#[]⟩).ins (x := ⟨#[97]⟩) kA (r := 1) (by decide) (by decide) (by decide) [] 0 (by decide)
  rw [kR1] at h1
  have h2 := h1.1.ins (x := ⟨#[98]⟩) (by decide +kernel) (r := 1) (by decide) (by decide) (by decide) [] 0 (by decide)
  rw [kR2] at h2
  exact h2.1.v
theorem nilZ (w : World) : Rd [] (.slice none 0 0) w := (Own.empty 0 w).rd
theorem cR0 (w : World) : Calls Tryd.prog 17 #[.int .i64 2] w fun e w' => ∃ a n c, e = .returned (.tuple #[.agg #[.int .i64 2, .int .i64 0, .int .i64 0, .slice a n c, .bool false], .int .i64 0]) ∧ RdB w.heap.size [] (.slice a n c) w' ∧ Below w.heap.size w w' :=
  (pnewR_any 2 w).mono fun e w' ⟨v, h1, ⟨a, n, c, h2, h3⟩, h4⟩ => ⟨a, n, c, by rw [h1, h2]; rfl, h3, h4⟩
theorem cR (t d : RK) (k : ByteArray) (a b : Int) (hd : insR t k 1 [] a = (d, b)) (he : insRE t k 1 a = 0) (hv : LOk t.L) (hk : k.size ≤ maxLen) (p : Option Addr) (n c : Nat) (w : World) (h : RdL t.L (.slice p n c) w) (hT : TabP w) :
    Calls Tryd.prog 15 #[.agg #[.int .i64 t.S, .int .i64 t.T, .int .i64 t.K, .slice p n c, .bool t.s], .agg #[.string k, .int .i64 1], .slice none 0 0, .int .i64 a] w fun e w' =>
      ∃ p n c, e = .returned (.tuple #[.agg #[.int .i64 d.S, .int .i64 d.T, .int .i64 d.K, .slice p n c, .bool d.s], .int .i64 b, .int .i64 0]) ∧ RdB w.heap.size d.L (.slice p n c) w' ∧ Below w.heap.size w w' :=
  (pinsR_any t k 1 _ _ [] a w ⟨p, n, c, rfl, h⟩ hv (nilZ w) (by decide) (by decide) hk hT).mono fun e w' ⟨v, h1, ⟨p, n, c, h2, h3⟩, h4⟩ => ⟨p, n, c, by rw [hd] at h1 h2; rw [h1, h2, he], by rw [hd] at h3; exact h3, h4⟩
set_option maxRecDepth 100000 in
set_option maxHeartbeats 2000000 in
theorem knownR_any (w : World) (hT : TabP w) : Calls Tryd.prog 11 #[] w fun e w' => e = .returned (.bool true) ∧ Below w.heap.size w w' := by
  have i1 := (insR_at (t := ⟨2, 0, 0, [], false⟩) (Z := []) (a := 0) vR0 iR1 (by decide)).2
  have i2 := (insR_at (t := ⟨2, 1, 0, [[⟨#[97]⟩]], false⟩) (Z := []) (a := 0) vR1 iR2 (by decide)).2
  have h1 := Lib.hid (cR ⟨2, 0, 0, [], false⟩ _ ⟨#[97]⟩ 0 _ kR1 i1 vR0.lok (by decide))
  have h2 := Lib.hid (cR ⟨2, 1, 0, [[⟨#[97]⟩]], false⟩ _ ⟨#[98]⟩ 0 _ kR2 i2 vR1.lok (by decide))
  have h3 := Lib.hid (fun (p : Option Addr) (n c : Nat) (w : World) (h : RdL [[], [⟨#[97]⟩]] (.slice p n c) w) => (prank_any ⟨2, 2, 1, [[], [⟨#[97]⟩]], false⟩ _ ⟨#[97]⟩ w ⟨p, n, c, rfl, h⟩ vR2.lok (by decide)).mono fun e w' (h : e = .returned (.tuple #[.int .i64 (rkR ⟨2, 2, 1, [[], [⟨#[97]⟩]], false⟩ ⟨#[97]⟩), .int .i64 (rkRE ⟨2, 2, 1, [[], [⟨#[97]⟩]], false⟩ ⟨#[97]⟩)]) ∧ Below w.heap.size w w') => (show e = .returned (.tuple #[.int .i64 2, .int .i64 0]) ∧ Below w.heap.size w w' from ⟨by
    rw [h.1]
    have e1 : rkR ⟨2, 2, 1, [[], [⟨#[97]⟩]], false⟩ ⟨#[97]⟩ = 2 := by
      unfold rkR
      rw [if_pos (valR_of vR2), if_pos kA]
      have : lessK ⟨#[97]⟩ ⟨#[97]⟩ = false := lessK_irr _
      simp [rnkN, cntK, this]
    have e2 : rkRE ⟨2, 2, 1, [[], [⟨#[97]⟩]], false⟩ ⟨#[97]⟩ = 0 := by
      unfold rkRE
      rw [if_pos (valR_of vR2), if_pos kA]
    rw [e1, e2], h.2⟩))
  clear i1 i2
  have HT := Lib.hid hT
  clear hT
  go_enter Tryd.func11, Tryd.ntmps11
  go_wp2_with (first
    | (go_at_call 17; refine (cR0 _).mono ?_; rintro e w2 ⟨a2, n2, k2, rfl, ho2, hb2⟩; have O2 := Lib.hid (ho2.rd.below (b1 (.cells #[.int .i64 2, .int .i64 0, .int .i64 0, .slice a2 n2 k2, .bool false] 28))); have B2 := Lib.hid (bal hb2 (.cells #[.int .i64 2, .int .i64 0, .int .i64 0, .slice a2 n2 k2, .bool false] 28)); clear ho2 hb2)
    | (go_at_call 15; refine (h1.out _ _ _ _ O2.out (HT.out.below B2.out)).mono ?_; rintro e w3 ⟨a3, n3, k3, rfl, ho3, hb3⟩; have O3 := Lib.hid (ho3.rd.below (b1 (.cells #[.int .i64 2, .int .i64 1, .int .i64 0, .slice a3 n3 k3, .bool false] 28))); have B3 := Lib.hid (bal (bgo B2.out hb3) (.cells #[.int .i64 2, .int .i64 1, .int .i64 0, .slice a3 n3 k3, .bool false] 28)); clear ho3 hb3 h1 O2 B2)
    | (go_at_call 15; refine (h2.out _ _ _ _ O3.out (HT.out.below B3.out)).mono ?_; rintro e w4 ⟨a4, n4, k4, rfl, ho4, hb4⟩; have O4 := Lib.hid (ho4.rd.below (b1 (.cells #[.int .i64 2, .int .i64 2, .int .i64 1, .slice a4 n4 k4, .bool false] 28))); have B4 := Lib.hid (bal (bgo B3.out hb4) (.cells #[.int .i64 2, .int .i64 2, .int .i64 1, .slice a4 n4 k4, .bool false] 28)); have T4 := Lib.hid (RsS.new 2 2 1 (.slice a4 n4 k4) false 28 w4); clear ho4 hb4 h2 O3 B3)
    | (go_at_call 24; refine (h3.out _ _ _ _ O4.out).mono ?_; rintro e w5 ⟨rfl, hb5⟩; have B5 := Lib.hid (bgo B4.out hb5); have T5 := Lib.hid (T4.out.go hb5); have O5 := O4.out.below hb5; obtain ⟨b5, o5, u5, m5, c5, rfl, rfl, hl5, hx5, -, rfl⟩ := O5.at_ (k := 0) (by simp); obtain ⟨b6, o6, u6, m6, c6, he6, -, hl6, hx6, -, rfl⟩ := O5.at_ (k := 1) (by simp); cases he6; obtain ⟨⟨t0, t1, t2, t3, t4⟩, -⟩ := T5.out; (have t3' : w5.cell? ⟨w4.heap.size, 3, none⟩ = some (.slice (some ⟨b5, o5, none⟩) 2 k4) := t3); (have hy5 : w5.cell? ⟨b5, o5, none⟩ = some (.slice u5 0 c5) := hx5); (have hy6 : w5.cell? ⟨b5, o5 + 1, none⟩ = some (.slice u6 1 c6) := hx6); clear hb5 h3 O4 B4 T4 O5 t3 hx5 hx6))
  go_ret
  exact ⟨rfl, B5.out⟩
end Go.Proofs.YtdifilhfmbpalaaDoor
