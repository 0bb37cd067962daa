/- The walk of ChainRemoves. -/
import Derived.Test.YtakickggpfbafaaChJ
import Derived.Test.YtakickggpfbafaaChH
import Derived.Test.YtakickggpfbafaaChK
import Derived.Test.YtakickggpfbafaaArgsPn
namespace Go.Proofs.Ytakickggpfbafaa
open Go.RowKit
set_option linter.unusedVariables false
set_option linter.unusedSimpArgs false
theorem OwnPn.pair {x y : Pn} (hx : x.ok) (hy : y.ok) (w : World) : OwnPn w.heap.size [x, y] (.slice (some ⟨w.heap.size, 0, none⟩) 2 2) (w.alloc (.cells #[.int .i64 x.m, .int .i64 x.n, .int .i64 y.m, .int .i64 y.n] 41)) :=
  ⟨(PnOk.one hx).app (PnOk.one hy), rfl, .inr ⟨w.heap.size, 2, #[.int .i64 x.m, .int .i64 x.n, .int .i64 y.m, .int .i64 y.n], rfl, Nat.le_refl _, Go.heap_alloc_new w _, Nat.le_refl _, by decide, rfl, rfl⟩⟩
theorem rmvV_len (L : List Vn) (c : Int) : (rmvV L c).length ≤ L.length := by
  unfold rmvV
  split
  · simp only [List.length_append, List.length_take, List.length_drop]
    omega
  · exact Nat.zero_le _
theorem rmvV_p {K : Nat} {L : List Vn} (h : ∀ x ∈ L, x.p.length ≤ K) (c : Int) : ∀ x ∈ rmvV L c, x.p.length ≤ K := by
  unfold rmvV
  split
  · intro x hx
    rcases List.mem_append.1 hx with h' | h'
    · exact h x (List.mem_of_mem_take h')
    · exact h x (List.mem_of_mem_drop h')
  · intro x hx
    cases hx
theorem rmvX_p {K : Nat} {L : List Vn} (h : ∀ x ∈ L, x.p.length ≤ K) (c : Int) : (rmvX L c).p.length ≤ K := by
  unfold rmvX
  split
  · rename_i i hi
    have hl := (remK_some hi).1
    have e : L.getD i Vn.z = L[i] := by simp [List.getD, hl]
    rw [e]
    exact h _ (List.getElem_mem hl)
  · exact Nat.zero_le _
set_option maxRecDepth 100000 in
set_option maxHeartbeats 4000000 in
theorem chainRemoves_walk (a0 : Option Addr) (len0 cap0 : Nat) (z0 : List Int) (a1 : Option Addr) (len1 cap1 : Nat) (z1 : List Pn) (a2 : Int) (W : World) (w0 : InRow .i64 W a0 len0 cap0 z0) (w1 : InPn W a1 len1 cap1 z1) (w2 : (Lit.int .i64 a2).wf = true) :
    Calls Try.prog 5 #[.slice a0 len0 cap0, .slice a1 len1 cap1, .int .i64 a2] W fun e w' => e = .returned (.bool true) ∧ Below W.heap.size W w' := by
  have hr := inPn_rd w1
  have hmade := made17_any (z0.take len0) _ W (inRow_rdJ w0)
  have hln : (z1.take len1).length = len1 := by rw [List.length_take]; have := w1.1; have := w1.2.2.1; omega
  have hmx : len1 ≤ 9223372036854775807 := by have h1 := w1.1; have h2 := w1.2.1; unfold maxLen at h2; omega
  generalize z1.take len1 = P at hr hln
  clear w0 w1 w2
  subst hln
  by_cases hb : 20 < (P.length : Int)
  · clear hr hmade
    go_enter Try.func5, Try.ntmps5
    go_wp2_with (go_at_call 7; refine (known17_any _).mono ?_; rintro e w9 ⟨rfl, hb9⟩; have H9 := Lib.hid hb9; clear hb9)
    go_ret
    exact ⟨rfl, H9.out⟩
  · have m1 := mask4k a2
    have m2 := mask4k (a2 / 16)
    have m3 := mask5k (a2 / 256)
    have r1 : 0 ≤ a2 % 16 ∧ a2 % 16 ≤ 15 := by omega
    have r2 : 0 ≤ a2 / 16 % 16 ∧ a2 / 16 % 16 ≤ 15 := by omega
    have HPL := Lib.hid (show P.length ≤ 1000000000000 by omega)
    generalize a2 % 16 = x1 at *
    generalize a2 / 16 % 16 = x2 at *
    generalize a2 / 256 % 32 = c at *
    have HR := Lib.hid (fun w' (hb' : Below W.heap.size W w') => hr.below hb')
    have H0 := Lib.hid (Below.refl W.heap.size W)
    clear hr
    have HX1 : Hid (Pn.ok ⟨x1, 1⟩) := Lib.hid ⟨by show -9223372036854775808 ≤ x1 ∧ x1 ≤ 9223372036854775807; omega, by show (-9223372036854775808 : Int) ≤ 1 ∧ (1 : Int) ≤ 9223372036854775807; decide⟩
    have HX2 : Hid (Pn.ok ⟨x2, 1⟩) := Lib.hid ⟨by show -9223372036854775808 ≤ x2 ∧ x2 ≤ 9223372036854775807; omega, by show (-9223372036854775808 : Int) ≤ 1 ∧ (1 : Int) ≤ 9223372036854775807; decide⟩
    go_enter Try.func5, Try.ntmps5
    go_upto_region 5 with (go_at_call 8; refine hmade.mono ?_; rintro e u1 ⟨M, N, u, hl, rfl, ho, hm, hbd, hb1⟩; have H1 := Lib.hid (bgo H0.out hb1); have R1 := Lib.hid ho.rd; have V1 := Lib.hid (hm.mono (Nat.zero_le _)); have HL := Lib.hid hl; have HBD := Lib.hid (show ∀ x ∈ N, x.p.length ≤ 2 from fun x hx => by have := (hbd x hx).2.2.2; omega); clear hb1 ho hm hl hmade hbd)
    have G2 := Lib.hid (OwnPn.pair HX1.out HX2.out u1).rd
    have H2 := Lib.hid (bal H1.out (.cells #[.int .i64 x1, .int .i64 1, .int .i64 x2, .int .i64 1] 41))
    have R2 := Lib.hid (R1.out.below (b1 (.cells #[.int .i64 x1, .int .i64 1, .int .i64 x2, .int .i64 1] 41)))
    have V2 := Lib.hid (V1.out.below (b1 (.cells #[.int .i64 x1, .int .i64 1, .int .i64 x2, .int .i64 1] 41)))
    have G2 : Hid (RdPn [⟨x1, 1⟩, ⟨x2, 1⟩] (.slice (some ⟨u1.heap.size, 0, none⟩) 2 2) (u1.alloc (.cells #[.int .i64 x1, .int .i64 1, .int .i64 x2, .int .i64 1] 41))) := G2
    clear H0 H1 R1 V1 HX1 HX2
    generalize hu2 : u1.alloc (.cells #[.int .i64 x1, .int .i64 1, .int .i64 x2, .int .i64 1] 41) = u2 at *
    clear hu2
    have Q1 : Hid (N.length ≤ 1000) := Lib.hid (by have := HL.out; omega)
    have Q2 : Hid (∀ x ∈ N, x.p.length ≤ 1000000) := Lib.hid (fun x hx => by have := HBD.out x hx; omega)
    have Q3 : Hid ((deadF P N 0).length ≤ 1000000) := Lib.hid (by have := deadF_len P N 0; have := HL.out; omega)
    have Q4 : Hid ((deadF [⟨x1, 1⟩, ⟨x2, 1⟩] N 0).length ≤ 1000000) := Lib.hid (by have := deadF_len [⟨x1, 1⟩, ⟨x2, 1⟩] N 0; have := HL.out; omega)
    have Q5 : Hid ((rmvV N c).length ≤ 1000) := Lib.hid (by have := rmvV_len N c; have := HL.out; omega)
    have Q6 : Hid (∀ x ∈ rmvV N c, x.p.length ≤ 1000000) := Lib.hid (fun x hx => by have := rmvV_p HBD.out c x hx; omega)
    have Q7 : Hid ((rmvX N c).p.length ≤ 1000000) := Lib.hid (by have := rmvX_p HBD.out c; omega)
    have C1 := Lib.hid (fun w (h : RdVs M u w) (h2 : VmAt 0 M N w) (h3 : RdPn P (.slice a1 P.length cap1) w) => pdead_any M N u P _ w h h2 Q1.out h3 HPL.out)
    have C2 := Lib.hid (fun w (h : RdVs M u w) (h2 : VmAt 0 M N w) (h3 : RdPn P (.slice a1 P.length cap1) w) => rdead_any M N u P _ w h h2 Q1.out h3 HPL.out)
    have C3 := Lib.hid (fun w (h : RdVs M u w) (h2 : VmAt 0 M N w) (h3 : RdPn [⟨x1, 1⟩, ⟨x2, 1⟩] (.slice (some ⟨u1.heap.size, 0, none⟩) 2 2) w) => pdead_any M N u [⟨x1, 1⟩, ⟨x2, 1⟩] _ w h h2 Q1.out h3 (by simp))
    have C4 := Lib.hid (fun w (h : RdVs M u w) (h2 : VmAt 0 M N w) (h3 : RdPn [⟨x1, 1⟩, ⟨x2, 1⟩] (.slice (some ⟨u1.heap.size, 0, none⟩) 2 2) w) => rdead_any M N u [⟨x1, 1⟩, ⟨x2, 1⟩] _ w h h2 Q1.out h3 (by simp))
    have C5 := Lib.hid (fun w (h : RdVs M u w) (h2 : VmAt 0 M N w) => prem_any M N u c w h h2 Q1.out Q2.out)
    have C6 := Lib.hid (fun w (h : RdVs M u w) (h2 : VmAt 0 M N w) => rrem_any M N u c w h h2 Q1.out)
    unfold OutX at C5 C6
    generalize deadF P N 0 = D1 at *
    generalize deadF [⟨x1, 1⟩, ⟨x2, 1⟩] N 0 = D2 at *
    generalize rmvV N c = LV at *
    generalize rmvE N c = LE at *
    generalize rmvX N c = X at *
    obtain ⟨xn, xr, xk, xp⟩ := X
    have Q7 : Hid (xp.length ≤ 1000000) := Q7
    generalize u1.heap.size = g1 at *
    clear HL HBD m1 m2 r1 r2 Q1 Q2 HPL
    simp only at C5 C6
    go_upto_region 8 with (first
      | (go_at_call 18; refine (C1.out _ R2.out V2.out (HR.out _ H2.out)).mono ?_; rintro e u3 ⟨va, rfl, ho, hb3⟩; have H3 := Lib.hid (bgo H2.out hb3); have R3 := Lib.hid (R2.out.below hb3); have V3 := Lib.hid (V2.out.below hb3); have G3 := Lib.hid (G2.out.below hb3); have A3 := Lib.hid ho.rd; clear hb3 H2 R2 V2 G2 ho)
      | (go_at_call 19; refine (C2.out _ R3.out V3.out (HR.out _ H3.out)).mono ?_; rintro e u4 ⟨vb, rfl, ho, hb4⟩; have H4 := Lib.hid (bgo H3.out hb4); have R4 := Lib.hid (R3.out.below hb4); have V4 := Lib.hid (V3.out.below hb4); have G4 := Lib.hid (G3.out.below hb4); have A4 := Lib.hid (A3.out.below hb4); have B4 := Lib.hid ho.rd; clear hb4 H3 R3 V3 G3 A3 ho)
      | (go_at_call 18; refine (C3.out _ R4.out V4.out G4.out).mono ?_; rintro e u5 ⟨vc, rfl, ho, hb5⟩; have H5 := Lib.hid (bgo H4.out hb5); have R5 := Lib.hid (R4.out.below hb5); have V5 := Lib.hid (V4.out.below hb5); have G5 := Lib.hid (G4.out.below hb5); have A5 := Lib.hid (A4.out.below hb5); have B5 := Lib.hid (B4.out.below hb5); have C5 := Lib.hid ho.rd; clear hb5 H4 R4 V4 G4 A4 B4 ho)
      | (go_at_call 19; refine (C4.out _ R5.out V5.out G5.out).mono ?_; rintro e u6 ⟨vd, rfl, ho, hb6⟩; have H6 := Lib.hid (bgo H5.out hb6); have R6 := Lib.hid (R5.out.below hb6); have V6 := Lib.hid (V5.out.below hb6); have G6 := Lib.hid (G5.out.below hb6); have A6 := Lib.hid (A5.out.below hb6); have B6 := Lib.hid (B5.out.below hb6); have C6 := Lib.hid (C5.out.below hb6); have D6 := Lib.hid ho.rd; clear hb6 H5 R5 V5 G5 A5 B5 C5 ho)
      | (go_at_call 20; refine (C5.out _ R6.out V6.out).mono ?_; rintro e u7 ⟨ve, ME, sE, rfl, ho, hm, hs, hb7⟩; obtain ⟨ea, ec, rfl⟩ := hs.rd.shape; have H7 := Lib.hid (bgo H6.out hb7); have R7 := Lib.hid (R6.out.below hb7); have V7 := Lib.hid (V6.out.below hb7); have G7 := Lib.hid (G6.out.below hb7); have A7 := Lib.hid (A6.out.below hb7); have B7 := Lib.hid (B6.out.below hb7); have C7 := Lib.hid (C6.out.below hb7); have D7 := Lib.hid (D6.out.below hb7); have X7 := Lib.hid ho.rd; have Y7 := Lib.hid (hm.mono (Nat.zero_le _)); have S7 := Lib.hid hs.rd; clear hb7 H6 R6 V6 G6 A6 B6 C6 D6 ho hm hs))
    have R8 := Lib.hid (R7.out.below (b1 (.cells #[.int .i64 xn, .int .i64 xr, .int .i64 xk, .slice ea xp.length ec] 33)))
    have V8 := Lib.hid (V7.out.below (b1 (.cells #[.int .i64 xn, .int .i64 xr, .int .i64 xk, .slice ea xp.length ec] 33)))
    have G8 := Lib.hid (G7.out.below (b1 (.cells #[.int .i64 xn, .int .i64 xr, .int .i64 xk, .slice ea xp.length ec] 33)))
    have A8 := Lib.hid (A7.out.below (b1 (.cells #[.int .i64 xn, .int .i64 xr, .int .i64 xk, .slice ea xp.length ec] 33)))
    have B8 := Lib.hid (B7.out.below (b1 (.cells #[.int .i64 xn, .int .i64 xr, .int .i64 xk, .slice ea xp.length ec] 33)))
    have C8 := Lib.hid (C7.out.below (b1 (.cells #[.int .i64 xn, .int .i64 xr, .int .i64 xk, .slice ea xp.length ec] 33)))
    have D8 := Lib.hid (D7.out.below (b1 (.cells #[.int .i64 xn, .int .i64 xr, .int .i64 xk, .slice ea xp.length ec] 33)))
    have X8 := Lib.hid (X7.out.below (b1 (.cells #[.int .i64 xn, .int .i64 xr, .int .i64 xk, .slice ea xp.length ec] 33)))
    have Y8 := Lib.hid (Y7.out.below (b1 (.cells #[.int .i64 xn, .int .i64 xr, .int .i64 xk, .slice ea xp.length ec] 33)))
    have S8 := Lib.hid (S7.out.below (b1 (.cells #[.int .i64 xn, .int .i64 xr, .int .i64 xk, .slice ea xp.length ec] 33)))
    have H8 := Lib.hid (bal H7.out (.cells #[.int .i64 xn, .int .i64 xr, .int .i64 xk, .slice ea xp.length ec] 33))
    have RA8 := Lib.hid (RowAt.new u7 #[.int .i64 xn, .int .i64 xr, .int .i64 xk, .slice ea xp.length ec] 33)
    clear H7 R7 V7 G7 A7 B7 C7 D7 X7 Y7 S7
    generalize hu8 : u7.alloc (.cells #[.int .i64 xn, .int .i64 xr, .int .i64 xk, .slice ea xp.length ec] 33) = u8 at *
    generalize u7.heap.size = g8 at *
    clear hu8
    go_upto_region 9 with (go_at_call 21; refine (C6.out _ R8.out V8.out).mono ?_; rintro e u9 ⟨vf, MF, sF, rfl, ho, hm, hs, hb9⟩; obtain ⟨fa, fc, rfl⟩ := hs.rd.shape; have H9 := Lib.hid (bgo H8.out hb9); have R9 := Lib.hid (R8.out.below hb9); have V9 := Lib.hid (V8.out.below hb9); have G9 := Lib.hid (G8.out.below hb9); have A9 := Lib.hid (A8.out.below hb9); have B9 := Lib.hid (B8.out.below hb9); have C9 := Lib.hid (C8.out.below hb9); have D9 := Lib.hid (D8.out.below hb9); have X9 := Lib.hid (X8.out.below hb9); have Y9 := Lib.hid (Y8.out.below hb9); have S9 := Lib.hid (S8.out.below hb9); have RA9 := Lib.hid (RA8.out.go hb9); have ZZ9 := Lib.hid ho.rd; have WW9 := Lib.hid hm; have QQ9 := Lib.hid hs.rd; clear hb9 H8 R8 V8 G8 A8 B8 C8 D8 X8 Y8 S8 RA8 ho hm hs)
    have R10 := Lib.hid (R9.out.below (b1 (.cells #[.int .i64 xn, .int .i64 xr, .int .i64 xk, .slice fa xp.length fc] 33)))
    have V10 := Lib.hid (V9.out.below (b1 (.cells #[.int .i64 xn, .int .i64 xr, .int .i64 xk, .slice fa xp.length fc] 33)))
    have G10 := Lib.hid (G9.out.below (b1 (.cells #[.int .i64 xn, .int .i64 xr, .int .i64 xk, .slice fa xp.length fc] 33)))
    have A10 := Lib.hid (A9.out.below (b1 (.cells #[.int .i64 xn, .int .i64 xr, .int .i64 xk, .slice fa xp.length fc] 33)))
    have B10 := Lib.hid (B9.out.below (b1 (.cells #[.int .i64 xn, .int .i64 xr, .int .i64 xk, .slice fa xp.length fc] 33)))
    have C10 := Lib.hid (C9.out.below (b1 (.cells #[.int .i64 xn, .int .i64 xr, .int .i64 xk, .slice fa xp.length fc] 33)))
    have D10 := Lib.hid (D9.out.below (b1 (.cells #[.int .i64 xn, .int .i64 xr, .int .i64 xk, .slice fa xp.length fc] 33)))
    have X10 := Lib.hid (X9.out.below (b1 (.cells #[.int .i64 xn, .int .i64 xr, .int .i64 xk, .slice fa xp.length fc] 33)))
    have Y10 := Lib.hid (Y9.out.below (b1 (.cells #[.int .i64 xn, .int .i64 xr, .int .i64 xk, .slice fa xp.length fc] 33)))
    have S10 := Lib.hid (S9.out.below (b1 (.cells #[.int .i64 xn, .int .i64 xr, .int .i64 xk, .slice fa xp.length fc] 33)))
    have RA10 := Lib.hid (RA9.out.go (b1 (.cells #[.int .i64 xn, .int .i64 xr, .int .i64 xk, .slice fa xp.length fc] 33)))
    have ZZ10 := Lib.hid (ZZ9.out.below (b1 (.cells #[.int .i64 xn, .int .i64 xr, .int .i64 xk, .slice fa xp.length fc] 33)))
    have WW10 := Lib.hid (WW9.out.below (b1 (.cells #[.int .i64 xn, .int .i64 xr, .int .i64 xk, .slice fa xp.length fc] 33)))
    have QQ10 := Lib.hid (QQ9.out.below (b1 (.cells #[.int .i64 xn, .int .i64 xr, .int .i64 xk, .slice fa xp.length fc] 33)))
    have H10 := Lib.hid (bal H9.out (.cells #[.int .i64 xn, .int .i64 xr, .int .i64 xk, .slice fa xp.length fc] 33))
    have RB10 := Lib.hid (RowAt.new u9 #[.int .i64 xn, .int .i64 xr, .int .i64 xk, .slice fa xp.length fc] 33)
    clear H9 R9 V9 G9 A9 B9 C9 D9 X9 Y9 S9 RA9 ZZ9 WW9 QQ9
    generalize hu10 : u9.alloc (.cells #[.int .i64 xn, .int .i64 xr, .int .i64 xk, .slice fa xp.length fc] 33) = u10 at *
    generalize u9.heap.size = g10 at *
    clear hu10
    go_wp2_with (first
      | (go_at_call 22; refine (ints_any D1 va vb _ A10.out B10.out Q3.out).mono ?_; rintro e u11 ⟨rfl, hb11⟩; have H11 := Lib.hid (bgo H10.out hb11); have R11 := Lib.hid (R10.out.below hb11); have V11 := Lib.hid (V10.out.below hb11); have G11 := Lib.hid (G10.out.below hb11); have A11 := Lib.hid (A10.out.below hb11); have B11 := Lib.hid (B10.out.below hb11); have C11 := Lib.hid (C10.out.below hb11); have D11 := Lib.hid (D10.out.below hb11); have X11 := Lib.hid (X10.out.below hb11); have Y11 := Lib.hid (Y10.out.below hb11); have S11 := Lib.hid (S10.out.below hb11); have RA11 := Lib.hid (RA10.out.go hb11); have ZZ11 := Lib.hid (ZZ10.out.below hb11); have WW11 := Lib.hid (WW10.out.below hb11); have QQ11 := Lib.hid (QQ10.out.below hb11); have RB11 := Lib.hid (RB10.out.go hb11); clear hb11 H10 R10 V10 G10 A10 B10 C10 D10 X10 Y10 S10 RA10 ZZ10 WW10 QQ10 RB10)
      | (go_at_call 22; refine (ints_any D2 vc vd _ C11.out D11.out Q4.out).mono ?_; rintro e u12 ⟨rfl, hb12⟩; have H12 := Lib.hid (bgo H11.out hb12); have R12 := Lib.hid (R11.out.below hb12); have V12 := Lib.hid (V11.out.below hb12); have G12 := Lib.hid (G11.out.below hb12); have A12 := Lib.hid (A11.out.below hb12); have B12 := Lib.hid (B11.out.below hb12); have C12 := Lib.hid (C11.out.below hb12); have D12 := Lib.hid (D11.out.below hb12); have X12 := Lib.hid (X11.out.below hb12); have Y12 := Lib.hid (Y11.out.below hb12); have S12 := Lib.hid (S11.out.below hb12); have RA12 := Lib.hid (RA11.out.go hb12); have ZZ12 := Lib.hid (ZZ11.out.below hb12); have WW12 := Lib.hid (WW11.out.below hb12); have QQ12 := Lib.hid (QQ11.out.below hb12); have RB12 := Lib.hid (RB11.out.go hb12); clear hb12 H11 R11 V11 G11 A11 B11 C11 D11 X11 Y11 S11 RA11 ZZ11 WW11 QQ11 RB11)
      | (go_at_call 17; refine (same_chn ME MF LV ve vf _ X12.out ZZ12.out Y12.out WW12.out Q5.out Q6.out).mono ?_; rintro e u13 ⟨rfl, hb13⟩; have H13 := Lib.hid (bgo H12.out hb13); have R13 := Lib.hid (R12.out.below hb13); have V13 := Lib.hid (V12.out.below hb13); have G13 := Lib.hid (G12.out.below hb13); have A13 := Lib.hid (A12.out.below hb13); have B13 := Lib.hid (B12.out.below hb13); have C13 := Lib.hid (C12.out.below hb13); have D13 := Lib.hid (D12.out.below hb13); have X13 := Lib.hid (X12.out.below hb13); have Y13 := Lib.hid (Y12.out.below hb13); have S13 := Lib.hid (S12.out.below hb13); have RA13 := Lib.hid (RA12.out.go hb13); have ZZ13 := Lib.hid (ZZ12.out.below hb13); have WW13 := Lib.hid (WW12.out.below hb13); have QQ13 := Lib.hid (QQ12.out.below hb13); have RB13 := Lib.hid (RB12.out.go hb13); have c0 := RA13.out.cell (j := 0) rfl; have d0 := RB13.out.cell (j := 0) rfl; have c1 := RA13.out.cell (j := 1) rfl; have d1 := RB13.out.cell (j := 1) rfl; have c2 := RA13.out.cell (j := 2) rfl; have d2 := RB13.out.cell (j := 2) rfl; have c3 := RA13.out.cell (j := 3) rfl; have d3 := RB13.out.cell (j := 3) rfl; clear hb13 H12 R12 V12 G12 A12 B12 C12 D12 X12 Y12 S12 RA12 ZZ12 WW12 QQ12 RB12)
      | (go_at_call 23; refine (same_vs xn xr xk _ _ xp _ S13.out QQ13.out Q7.out).mono ?_; rintro e u14 ⟨rfl, hb14⟩; have H14 := Lib.hid (bgo H13.out hb14); have R14 := Lib.hid (R13.out.below hb14); have V14 := Lib.hid (V13.out.below hb14); have G14 := Lib.hid (G13.out.below hb14); have A14 := Lib.hid (A13.out.below hb14); have B14 := Lib.hid (B13.out.below hb14); have C14 := Lib.hid (C13.out.below hb14); have D14 := Lib.hid (D13.out.below hb14); have X14 := Lib.hid (X13.out.below hb14); have Y14 := Lib.hid (Y13.out.below hb14); have S14 := Lib.hid (S13.out.below hb14); have RA14 := Lib.hid (RA13.out.go hb14); have ZZ14 := Lib.hid (ZZ13.out.below hb14); have WW14 := Lib.hid (WW13.out.below hb14); have QQ14 := Lib.hid (QQ13.out.below hb14); have RB14 := Lib.hid (RB13.out.go hb14); clear hb14 H13 R13 V13 G13 A13 B13 C13 D13 X13 Y13 S13 RA13 ZZ13 WW13 QQ13 RB13 c0 c1 c2 c3 d0 d1 d2 d3)
      | (go_at_call 7; refine (known17_any _).mono ?_; rintro e u15 ⟨rfl, hb15⟩; have H15 := Lib.hid (bgo H14.out hb15); have R15 := Lib.hid (R14.out.below hb15); have V15 := Lib.hid (V14.out.below hb15); have G15 := Lib.hid (G14.out.below hb15); have A15 := Lib.hid (A14.out.below hb15); have B15 := Lib.hid (B14.out.below hb15); have C15 := Lib.hid (C14.out.below hb15); have D15 := Lib.hid (D14.out.below hb15); have X15 := Lib.hid (X14.out.below hb15); have Y15 := Lib.hid (Y14.out.below hb15); have S15 := Lib.hid (S14.out.below hb15); have RA15 := Lib.hid (RA14.out.go hb15); have ZZ15 := Lib.hid (ZZ14.out.below hb15); have WW15 := Lib.hid (WW14.out.below hb15); have QQ15 := Lib.hid (QQ14.out.below hb15); have RB15 := Lib.hid (RB14.out.go hb15); clear hb15 H14 R14 V14 G14 A14 B14 C14 D14 X14 Y14 S14 RA14 ZZ14 WW14 QQ14 RB14))
    go_ret
    exact ⟨rfl, H15.out⟩
end Go.Proofs.Ytakickggpfbafaa
