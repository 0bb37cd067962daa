/- The walk of ChainChanges. -/
import Derived.Test.YtakickggpfbafaaChG
import Derived.Test.YtakickggpfbafaaChK
namespace Go.Proofs.Ytakickggpfbafaa
open Go.RowKit
set_option linter.unusedVariables false
set_option linter.unusedSimpArgs false
theorem mask6k (n : Int) : bits .and .i64 n 63 = n % 64 := i64_mask 6 (by decide) n
theorem lastV_p {K : Nat} {L : List Vn} (h : ∀ x ∈ L, x.p.length ≤ K) : (lastV L).p.length ≤ K := by
  unfold lastV
  by_cases hl : L.length - 1 < L.length
  · have e : L.getD (L.length - 1) Vn.z = L[L.length - 1] := by simp [List.getD, hl]
    rw [e]
    exact h _ (List.getElem_mem hl)
  · have e : L.getD (L.length - 1) Vn.z = Vn.z := by simp [List.getD, List.getElem?_eq_none (Nat.le_of_not_lt hl)]
    rw [e]
    exact Nat.zero_le _
theorem endV_len (L : List Vn) (c : Int) : (endV L c).length = L.length := by
  unfold endV
  split <;> simp
theorem endV_p {K : Nat} {L : List Vn} (h : ∀ x ∈ L, x.p.length ≤ K) (c : Int) : ∀ x ∈ endV L c, x.p.length ≤ K := by
  unfold endV
  split
  · intro x hx
    rcases List.mem_or_eq_of_mem_set hx with h' | rfl
    · exact h x h'
    · exact lastV_p h
  · exact h
theorem appV_len (L : List Vn) (v : Vn) : (appV L v).length ≤ L.length + 1 := by
  unfold appV
  split
  · rw [List.length_append, endV_len]
    exact Nat.le_refl _
  · exact Nat.zero_le _
theorem appV_p {K : Nat} {L : List Vn} (h : ∀ x ∈ L, x.p.length ≤ K) {v : Vn} (hv : v.p.length ≤ K) : ∀ x ∈ appV L v, x.p.length ≤ K := by
  unfold appV
  split
  · intro x hx
    rcases List.mem_append.1 hx with h' | h'
    · exact endV_p h _ x h'
    · rw [List.mem_singleton] at h'
      subst h'
      exact hv
  · intro x hx
    cases hx
theorem cloV_len (L : List Vn) (c : Int) : (cloV L c).length ≤ L.length := by
  unfold cloV
  split
  · rw [endV_len]
    exact Nat.le_refl _
  · exact Nat.zero_le _
theorem cloV_p {K : Nat} {L : List Vn} (h : ∀ x ∈ L, x.p.length ≤ K) (c : Int) : ∀ x ∈ cloV L c, x.p.length ≤ K := by
  unfold cloV
  split
  · exact endV_p h c
  · intro x hx
    cases hx
theorem quo15 {x : Int} (h0 : 0 ≤ x) (h1 : x ≤ 15) : Int.tdiv x 15 = if x = 15 then 1 else 0 := by
  rw [Int.tdiv_eq_ediv_of_nonneg h0]
  split <;> omega
set_option maxRecDepth 100000 in
set_option maxHeartbeats 8000000 in
theorem chainChanges_walk (a0 : Option Addr) (len0 cap0 : Nat) (z0 : List Int) (a1 : Int) (W : World) (w0 : InRow .i64 W a0 len0 cap0 z0) (w1 : (Lit.int .i64 a1).wf = true) :
    Calls Try.prog 4 #[.slice a0 len0 cap0, .int .i64 a1] W fun e w' => e = .returned (.bool true) ∧ Below W.heap.size W w' := by
  have hmade := made17_any (z0.take len0) _ W (inRow_rdJ w0)
  have H0 := Lib.hid (Below.refl W.heap.size W)
  have m1 := mask6k a1
  have m2 := mask5k (a1 / 64)
  have m3 := mask4k (a1 / 2048)
  have m4 := mask4k (a1 / 32768)
  have r1 : 0 ≤ a1 % 64 ∧ a1 % 64 ≤ 63 := by omega
  have r2 : 0 ≤ a1 / 64 % 32 ∧ a1 / 64 % 32 ≤ 31 := by omega
  have r3 : 0 ≤ a1 / 2048 % 16 ∧ a1 / 2048 % 16 ≤ 15 := by omega
  clear w0 w1
  generalize a1 % 64 = x1 at *
  generalize a1 / 64 % 32 = x2 at *
  generalize a1 / 2048 % 16 = x3 at *
  obtain ⟨x4, hx4⟩ : ∃ x, a1 / 32768 % 16 = x := ⟨_, rfl⟩
  rw [hx4] at m4
  clear hx4
  obtain ⟨q, hq, hq01⟩ : ∃ q, Int.tdiv x3 15 = q ∧ (0 ≤ q ∧ q ≤ 1) := ⟨_, rfl, by rw [quo15 r3.1 r3.2]; split <;> omega⟩
  by_cases h4 : x4 = 15
  · subst h4
    go_enter Try.func4, Try.ntmps4
    go_upto_region 2 with (go_at_call 8; refine hmade.mono ?_; rintro e u1 ⟨M, N, u, hl, rfl, ho, hm, hbd, hb1⟩; have H1 := Lib.hid (bgo H0.out hb1); have R1 := Lib.hid ho.rd; have V1 := Lib.hid (hm.mono (Nat.zero_le _)); have HL := Lib.hid hl; have HBD := Lib.hid (show ∀ x ∈ N, x.p.length ≤ 2 from fun x hx => by have := (hbd x hx).2.2.2; omega); clear hb1 ho hm hl hmade hbd)
    go_upto_region 5 with fail
    have HP2 : Hid (OwnI 0 [1, 2] (.slice (some ⟨u1.heap.size, 0, none⟩) 2 2) ((u1.alloc (.cells #[.int .i64 1, .int .i64 2] 3)).alloc (.cells #[.int .i64 (x1 - 1), .int .i64 (1 + x1), .int .i64 (x2 - q * 32), .slice (some ⟨u1.heap.size, 0, none⟩) 2 2] 33))) := Lib.hid (((OwnI.two (c := 1) (d := 2) (by decide) (by decide) u1).alloc _).mono (Nat.zero_le _))
    have c0 : ((u1.alloc (.cells #[.int .i64 1, .int .i64 2] 3)).alloc (.cells #[.int .i64 (x1 - 1), .int .i64 (1 + x1), .int .i64 (x2 - q * 32), .slice (some ⟨u1.heap.size, 0, none⟩) 2 2] 33)).cell? ⟨u1.heap.size + 1, 0, none⟩ = some (.int .i64 (x1 - 1)) := by go_simp
    have c1 : ((u1.alloc (.cells #[.int .i64 1, .int .i64 2] 3)).alloc (.cells #[.int .i64 (x1 - 1), .int .i64 (1 + x1), .int .i64 (x2 - q * 32), .slice (some ⟨u1.heap.size, 0, none⟩) 2 2] 33)).cell? ⟨u1.heap.size + 1, 1, none⟩ = some (.int .i64 (1 + x1)) := by go_simp
    have c2 : ((u1.alloc (.cells #[.int .i64 1, .int .i64 2] 3)).alloc (.cells #[.int .i64 (x1 - 1), .int .i64 (1 + x1), .int .i64 (x2 - q * 32), .slice (some ⟨u1.heap.size, 0, none⟩) 2 2] 33)).cell? ⟨u1.heap.size + 1, 2, none⟩ = some (.int .i64 (x2 - q * 32)) := by go_simp
    have c3 : ((u1.alloc (.cells #[.int .i64 1, .int .i64 2] 3)).alloc (.cells #[.int .i64 (x1 - 1), .int .i64 (1 + x1), .int .i64 (x2 - q * 32), .slice (some ⟨u1.heap.size, 0, none⟩) 2 2] 33)).cell? ⟨u1.heap.size + 1, 3, none⟩ = some (.slice (some ⟨u1.heap.size, 0, none⟩) 2 2) := by go_simp
    have HLT : Hid (u1.heap.size + 1 < ((u1.alloc (.cells #[.int .i64 1, .int .i64 2] 3)).alloc (.cells #[.int .i64 (x1 - 1), .int .i64 (1 + x1), .int .i64 (x2 - q * 32), .slice (some ⟨u1.heap.size, 0, none⟩) 2 2] 33)).heap.size) := Lib.hid (by simp)
    have H2 := Lib.hid (bal (bal H1.out (.cells #[.int .i64 1, .int .i64 2] 3)) (.cells #[.int .i64 (x1 - 1), .int .i64 (1 + x1), .int .i64 (x2 - q * 32), .slice (some ⟨u1.heap.size, 0, none⟩) 2 2] 33))
    have R2 := Lib.hid (R1.out.below (b2 (.cells #[.int .i64 1, .int .i64 2] 3) (.cells #[.int .i64 (x1 - 1), .int .i64 (1 + x1), .int .i64 (x2 - q * 32), .slice (some ⟨u1.heap.size, 0, none⟩) 2 2] 33)))
    have V2 := Lib.hid (V1.out.below (b2 (.cells #[.int .i64 1, .int .i64 2] 3) (.cells #[.int .i64 (x1 - 1), .int .i64 (1 + x1), .int .i64 (x2 - q * 32), .slice (some ⟨u1.heap.size, 0, none⟩) 2 2] 33)))
    clear H0 H1 R1 V1
    generalize ((u1.alloc (.cells #[.int .i64 1, .int .i64 2] 3)).alloc (.cells #[.int .i64 (x1 - 1), .int .i64 (1 + x1), .int .i64 (x2 - q * 32), .slice (some ⟨u1.heap.size, 0, none⟩) 2 2] 33)) = u2 at *
    have HX : Hid (Vs.ok ⟨x1 - 1, (1 + x1), x2 - q * 32, .slice (some ⟨u1.heap.size, 0, none⟩) 2 2⟩) := Lib.hid ⟨by show -9223372036854775808 ≤ x1 - 1 ∧ x1 - 1 ≤ 9223372036854775807; omega, by show -9223372036854775808 ≤ (1 + x1) ∧ (1 + x1) ≤ 9223372036854775807; omega, by show -9223372036854775808 ≤ x2 - q * 32 ∧ x2 - q * 32 ≤ 9223372036854775807; omega, _, _, _, rfl⟩
    have HCB : Hid (-9223372036854775808 ≤ x1 - 1 ∧ x1 - 1 ≤ 9223372036854775807) := Lib.hid (by omega)
    generalize u1.heap.size = g1 at *
    obtain ⟨y, hy⟩ : ∃ y : Vn, y = ⟨x1 - 1, (1 + x1), x2 - q * 32, [1, 2]⟩ := ⟨_, rfl⟩
    have HAP := Lib.hid (fun w (h : RdVs M u w) (h2 : VmAt 0 M N w) (h3 : OwnI 0 [1, 2] (.slice (some ⟨g1, 0, none⟩) 2 2) w) => papp_any M N u (x1 - 1) (1 + x1) (x2 - q * 32) _ [1, 2] w h h2 (by have := HL.out; omega) (fun x hx => by have := HBD.out x hx; omega) h3.rd HX.out (by decide))
    have HRP := Lib.hid (fun w (h : RdVs M u w) (h2 : VmAt 0 M N w) (h3 : OwnI 0 [1, 2] (.slice (some ⟨g1, 0, none⟩) 2 2) w) => rapp_any M N u (x1 - 1) (1 + x1) (x2 - q * 32) _ [1, 2] w h h2 (by have := HL.out; omega) h3 HX.out)
    have HPC := Lib.hid (fun w (h : RdVs M u w) (h2 : VmAt 0 M N w) => pclo_any M N u (x1 - 1) w h h2 (by have := HL.out; omega) (fun x hx => by have := HBD.out x hx; omega) HCB.out)
    have HRC := Lib.hid (fun w (h : RdVs M u w) (h2 : VmAt 0 M N w) => rclo_any M N u (x1 - 1) w h h2 (by have := HL.out; omega) HCB.out)
    rw [← hy] at HAP HRP
    have Q1 : Hid ((appV N y).length ≤ 1000) := Lib.hid (by have := appV_len N y; have := HL.out; omega)
    have Q2 : Hid (∀ x ∈ appV N y, x.p.length ≤ 1000000) := Lib.hid (fun x hx => by have := appV_p HBD.out (v := y) (by rw [hy]; exact Nat.le_refl 2) x hx; omega)
    have Q3 : Hid ((cloV N (x1 - 1)).length ≤ 1000) := Lib.hid (by have := cloV_len N (x1 - 1); have := HL.out; omega)
    have Q4 : Hid (∀ x ∈ cloV N (x1 - 1), x.p.length ≤ 1000000) := Lib.hid (fun x hx => by have := cloV_p HBD.out (x1 - 1) x hx; omega)
    generalize appE N y = E1 at *
    generalize appV N y = L1 at *
    generalize cloE N (x1 - 1) = E2 at *
    generalize cloV N (x1 - 1) = L2 at *
    clear hy HX HCB HL HBD hq hq01 r2 r3 m2 m3 m4
    go_wp2_with (first
      | (go_at_call 13; refine (HAP.out _ R2.out V2.out HP2.out).mono ?_; rintro e u3 ⟨ua, MA, rfl, ho, hm, hb3⟩; have H3 := Lib.hid (bgo H2.out hb3); have R3 := Lib.hid (R2.out.below hb3); have V3 := Lib.hid (V2.out.below hb3); have A3 := Lib.hid ho.rd; have B3 := Lib.hid (hm.mono (Nat.zero_le _)); have d0 := ((bcell hb3).1 _ 0 HLT.out).trans c0; have d1 := ((bcell hb3).1 _ 1 HLT.out).trans c1; have d2 := ((bcell hb3).1 _ 2 HLT.out).trans c2; have d3 := ((bcell hb3).1 _ 3 HLT.out).trans c3; have HP3 := Lib.hid (HP2.out.below hb3); clear hb3 H2 R2 V2 ho hm)
      | (go_at_call 14; refine (HRP.out _ R3.out V3.out HP3.out).mono ?_; rintro e u4 ⟨ub, MB, rfl, ho, hm, hb4⟩; have H4 := Lib.hid (bgo H3.out hb4); have R4 := Lib.hid (R3.out.below hb4); have V4 := Lib.hid (V3.out.below hb4); have A4 := Lib.hid (A3.out.below hb4); have B4 := Lib.hid (B3.out.below hb4); have C4 := Lib.hid ho.rd; have D4 := Lib.hid hm; clear hb4 H3 R3 V3 A3 B3 ho hm)
      | (go_at_call 15; refine (HPC.out _ R4.out V4.out).mono ?_; rintro e u5 ⟨uc, MC, rfl, ho, hm, hb5⟩; have H5 := Lib.hid (bgo H4.out hb5); have R5 := Lib.hid (R4.out.below hb5); have V5 := Lib.hid (V4.out.below hb5); have A5 := Lib.hid (A4.out.below hb5); have B5 := Lib.hid (B4.out.below hb5); have C5 := Lib.hid (C4.out.below hb5); have D5 := Lib.hid (D4.out.below hb5); have X5 := Lib.hid ho.rd; have Y5 := Lib.hid (hm.mono (Nat.zero_le _)); clear hb5 H4 R4 V4 A4 B4 C4 D4 ho hm)
      | (go_at_call 16; refine (HRC.out _ R5.out V5.out).mono ?_; rintro e u6 ⟨ud, MD, rfl, ho, hm, hb6⟩; have H6 := Lib.hid (bgo H5.out hb6); have R6 := Lib.hid (R5.out.below hb6); have V6 := Lib.hid (V5.out.below hb6); have A6 := Lib.hid (A5.out.below hb6); have B6 := Lib.hid (B5.out.below hb6); have C6 := Lib.hid (C5.out.below hb6); have D6 := Lib.hid (D5.out.below hb6); have X6 := Lib.hid (X5.out.below hb6); have Y6 := Lib.hid (Y5.out.below hb6); have S6 := Lib.hid ho.rd; have T6 := Lib.hid hm; clear hb6 H5 R5 V5 A5 B5 C5 D5 X5 Y5 ho hm)
      | (go_at_call 17; refine (same_chn MA MB L1 ua ub _ A6.out C6.out B6.out D6.out Q1.out Q2.out).mono ?_; rintro e u7 ⟨rfl, hb7⟩; have H7 := Lib.hid (bgo H6.out hb7); have R7 := Lib.hid (R6.out.below hb7); have V7 := Lib.hid (V6.out.below hb7); have A7 := Lib.hid (A6.out.below hb7); have B7 := Lib.hid (B6.out.below hb7); have C7 := Lib.hid (C6.out.below hb7); have D7 := Lib.hid (D6.out.below hb7); have X7 := Lib.hid (X6.out.below hb7); have Y7 := Lib.hid (Y6.out.below hb7); have S7 := Lib.hid (S6.out.below hb7); have T7 := Lib.hid (T6.out.below hb7); clear hb7 H6 R6 V6 A6 B6 C6 D6 X6 Y6 S6 T6)
      | (go_at_call 17; refine (same_chn MC MD L2 uc ud _ X7.out S7.out Y7.out T7.out Q3.out Q4.out).mono ?_; rintro e u8 ⟨rfl, hb8⟩; have H8 := Lib.hid (bgo H7.out hb8); have R8 := Lib.hid (R7.out.below hb8); have V8 := Lib.hid (V7.out.below hb8); have A8 := Lib.hid (A7.out.below hb8); have B8 := Lib.hid (B7.out.below hb8); have C8 := Lib.hid (C7.out.below hb8); have D8 := Lib.hid (D7.out.below hb8); have X8 := Lib.hid (X7.out.below hb8); have Y8 := Lib.hid (Y7.out.below hb8); have S8 := Lib.hid (S7.out.below hb8); have T8 := Lib.hid (T7.out.below hb8); clear hb8 H7 R7 V7 A7 B7 C7 D7 X7 Y7 S7 T7)
      | (go_at_call 7; refine (known17_any _).mono ?_; rintro e u9 ⟨rfl, hb9⟩; have H9 := Lib.hid (bgo H8.out hb9); have R9 := Lib.hid (R8.out.below hb9); have V9 := Lib.hid (V8.out.below hb9); have A9 := Lib.hid (A8.out.below hb9); have B9 := Lib.hid (B8.out.below hb9); have C9 := Lib.hid (C8.out.below hb9); have D9 := Lib.hid (D8.out.below hb9); have X9 := Lib.hid (X8.out.below hb9); have Y9 := Lib.hid (Y8.out.below hb9); have S9 := Lib.hid (S8.out.below hb9); have T9 := Lib.hid (T8.out.below hb9); clear hb9 H8 R8 V8 A8 B8 C8 D8 X8 Y8 S8 T8))
    go_ret
    exact ⟨rfl, H9.out⟩
  · have h5 : (x4 == 15) = false := by simpa using h4
    go_enter Try.func4, Try.ntmps4
    go_upto_region 2 with (go_at_call 8; refine hmade.mono ?_; rintro e u1 ⟨M, N, u, hl, rfl, ho, hm, hbd, hb1⟩; have H1 := Lib.hid (bgo H0.out hb1); have R1 := Lib.hid ho.rd; have V1 := Lib.hid (hm.mono (Nat.zero_le _)); have HL := Lib.hid hl; have HBD := Lib.hid (show ∀ x ∈ N, x.p.length ≤ 2 from fun x hx => by have := (hbd x hx).2.2.2; omega); clear hb1 ho hm hl hmade hbd)
    go_upto_region 5 with fail
    have HP2 : Hid (OwnI 0 [1, 2] (.slice (some ⟨u1.heap.size, 0, none⟩) 2 2) ((u1.alloc (.cells #[.int .i64 1, .int .i64 2] 3)).alloc (.cells #[.int .i64 (x1 - 1), .int .i64 0, .int .i64 (x2 - q * 32), .slice (some ⟨u1.heap.size, 0, none⟩) 2 2] 33))) := Lib.hid (((OwnI.two (c := 1) (d := 2) (by decide) (by decide) u1).alloc _).mono (Nat.zero_le _))
    have c0 : ((u1.alloc (.cells #[.int .i64 1, .int .i64 2] 3)).alloc (.cells #[.int .i64 (x1 - 1), .int .i64 0, .int .i64 (x2 - q * 32), .slice (some ⟨u1.heap.size, 0, none⟩) 2 2] 33)).cell? ⟨u1.heap.size + 1, 0, none⟩ = some (.int .i64 (x1 - 1)) := by go_simp
    have c1 : ((u1.alloc (.cells #[.int .i64 1, .int .i64 2] 3)).alloc (.cells #[.int .i64 (x1 - 1), .int .i64 0, .int .i64 (x2 - q * 32), .slice (some ⟨u1.heap.size, 0, none⟩) 2 2] 33)).cell? ⟨u1.heap.size + 1, 1, none⟩ = some (.int .i64 0) := by go_simp
    have c2 : ((u1.alloc (.cells #[.int .i64 1, .int .i64 2] 3)).alloc (.cells #[.int .i64 (x1 - 1), .int .i64 0, .int .i64 (x2 - q * 32), .slice (some ⟨u1.heap.size, 0, none⟩) 2 2] 33)).cell? ⟨u1.heap.size + 1, 2, none⟩ = some (.int .i64 (x2 - q * 32)) := by go_simp
    have c3 : ((u1.alloc (.cells #[.int .i64 1, .int .i64 2] 3)).alloc (.cells #[.int .i64 (x1 - 1), .int .i64 0, .int .i64 (x2 - q * 32), .slice (some ⟨u1.heap.size, 0, none⟩) 2 2] 33)).cell? ⟨u1.heap.size + 1, 3, none⟩ = some (.slice (some ⟨u1.heap.size, 0, none⟩) 2 2) := by go_simp
    have HLT : Hid (u1.heap.size + 1 < ((u1.alloc (.cells #[.int .i64 1, .int .i64 2] 3)).alloc (.cells #[.int .i64 (x1 - 1), .int .i64 0, .int .i64 (x2 - q * 32), .slice (some ⟨u1.heap.size, 0, none⟩) 2 2] 33)).heap.size) := Lib.hid (by simp)
    have H2 := Lib.hid (bal (bal H1.out (.cells #[.int .i64 1, .int .i64 2] 3)) (.cells #[.int .i64 (x1 - 1), .int .i64 0, .int .i64 (x2 - q * 32), .slice (some ⟨u1.heap.size, 0, none⟩) 2 2] 33))
    have R2 := Lib.hid (R1.out.below (b2 (.cells #[.int .i64 1, .int .i64 2] 3) (.cells #[.int .i64 (x1 - 1), .int .i64 0, .int .i64 (x2 - q * 32), .slice (some ⟨u1.heap.size, 0, none⟩) 2 2] 33)))
    have V2 := Lib.hid (V1.out.below (b2 (.cells #[.int .i64 1, .int .i64 2] 3) (.cells #[.int .i64 (x1 - 1), .int .i64 0, .int .i64 (x2 - q * 32), .slice (some ⟨u1.heap.size, 0, none⟩) 2 2] 33)))
    clear H0 H1 R1 V1
    generalize ((u1.alloc (.cells #[.int .i64 1, .int .i64 2] 3)).alloc (.cells #[.int .i64 (x1 - 1), .int .i64 0, .int .i64 (x2 - q * 32), .slice (some ⟨u1.heap.size, 0, none⟩) 2 2] 33)) = u2 at *
    have HX : Hid (Vs.ok ⟨x1 - 1, 0, x2 - q * 32, .slice (some ⟨u1.heap.size, 0, none⟩) 2 2⟩) := Lib.hid ⟨by show -9223372036854775808 ≤ x1 - 1 ∧ x1 - 1 ≤ 9223372036854775807; omega, by show -9223372036854775808 ≤ 0 ∧ 0 ≤ 9223372036854775807; omega, by show -9223372036854775808 ≤ x2 - q * 32 ∧ x2 - q * 32 ≤ 9223372036854775807; omega, _, _, _, rfl⟩
    have HCB : Hid (-9223372036854775808 ≤ x1 - 1 ∧ x1 - 1 ≤ 9223372036854775807) := Lib.hid (by omega)
    generalize u1.heap.size = g1 at *
    obtain ⟨y, hy⟩ : ∃ y : Vn, y = ⟨x1 - 1, 0, x2 - q * 32, [1, 2]⟩ := ⟨_, rfl⟩
    have HAP := Lib.hid (fun w (h : RdVs M u w) (h2 : VmAt 0 M N w) (h3 : OwnI 0 [1, 2] (.slice (some ⟨g1, 0, none⟩) 2 2) w) => papp_any M N u (x1 - 1) 0 (x2 - q * 32) _ [1, 2] w h h2 (by have := HL.out; omega) (fun x hx => by have := HBD.out x hx; omega) h3.rd HX.out (by decide))
    have HRP := Lib.hid (fun w (h : RdVs M u w) (h2 : VmAt 0 M N w) (h3 : OwnI 0 [1, 2] (.slice (some ⟨g1, 0, none⟩) 2 2) w) => rapp_any M N u (x1 - 1) 0 (x2 - q * 32) _ [1, 2] w h h2 (by have := HL.out; omega) h3 HX.out)
    have HPC := Lib.hid (fun w (h : RdVs M u w) (h2 : VmAt 0 M N w) => pclo_any M N u (x1 - 1) w h h2 (by have := HL.out; omega) (fun x hx => by have := HBD.out x hx; omega) HCB.out)
    have HRC := Lib.hid (fun w (h : RdVs M u w) (h2 : VmAt 0 M N w) => rclo_any M N u (x1 - 1) w h h2 (by have := HL.out; omega) HCB.out)
    rw [← hy] at HAP HRP
    have Q1 : Hid ((appV N y).length ≤ 1000) := Lib.hid (by have := appV_len N y; have := HL.out; omega)
    have Q2 : Hid (∀ x ∈ appV N y, x.p.length ≤ 1000000) := Lib.hid (fun x hx => by have := appV_p HBD.out (v := y) (by rw [hy]; exact Nat.le_refl 2) x hx; omega)
    have Q3 : Hid ((cloV N (x1 - 1)).length ≤ 1000) := Lib.hid (by have := cloV_len N (x1 - 1); have := HL.out; omega)
    have Q4 : Hid (∀ x ∈ cloV N (x1 - 1), x.p.length ≤ 1000000) := Lib.hid (fun x hx => by have := cloV_p HBD.out (x1 - 1) x hx; omega)
    generalize appE N y = E1 at *
    generalize appV N y = L1 at *
    generalize cloE N (x1 - 1) = E2 at *
    generalize cloV N (x1 - 1) = L2 at *
    clear hy HX HCB HL HBD hq hq01 r2 r3 m2 m3 m4
    go_wp2_with (first
      | (go_at_call 13; refine (HAP.out _ R2.out V2.out HP2.out).mono ?_; rintro e u3 ⟨ua, MA, rfl, ho, hm, hb3⟩; have H3 := Lib.hid (bgo H2.out hb3); have R3 := Lib.hid (R2.out.below hb3); have V3 := Lib.hid (V2.out.below hb3); have A3 := Lib.hid ho.rd; have B3 := Lib.hid (hm.mono (Nat.zero_le _)); have d0 := ((bcell hb3).1 _ 0 HLT.out).trans c0; have d1 := ((bcell hb3).1 _ 1 HLT.out).trans c1; have d2 := ((bcell hb3).1 _ 2 HLT.out).trans c2; have d3 := ((bcell hb3).1 _ 3 HLT.out).trans c3; have HP3 := Lib.hid (HP2.out.below hb3); clear hb3 H2 R2 V2 ho hm)
      | (go_at_call 14; refine (HRP.out _ R3.out V3.out HP3.out).mono ?_; rintro e u4 ⟨ub, MB, rfl, ho, hm, hb4⟩; have H4 := Lib.hid (bgo H3.out hb4); have R4 := Lib.hid (R3.out.below hb4); have V4 := Lib.hid (V3.out.below hb4); have A4 := Lib.hid (A3.out.below hb4); have B4 := Lib.hid (B3.out.below hb4); have C4 := Lib.hid ho.rd; have D4 := Lib.hid hm; clear hb4 H3 R3 V3 A3 B3 ho hm)
      | (go_at_call 15; refine (HPC.out _ R4.out V4.out).mono ?_; rintro e u5 ⟨uc, MC, rfl, ho, hm, hb5⟩; have H5 := Lib.hid (bgo H4.out hb5); have R5 := Lib.hid (R4.out.below hb5); have V5 := Lib.hid (V4.out.below hb5); have A5 := Lib.hid (A4.out.below hb5); have B5 := Lib.hid (B4.out.below hb5); have C5 := Lib.hid (C4.out.below hb5); have D5 := Lib.hid (D4.out.below hb5); have X5 := Lib.hid ho.rd; have Y5 := Lib.hid (hm.mono (Nat.zero_le _)); clear hb5 H4 R4 V4 A4 B4 C4 D4 ho hm)
      | (go_at_call 16; refine (HRC.out _ R5.out V5.out).mono ?_; rintro e u6 ⟨ud, MD, rfl, ho, hm, hb6⟩; have H6 := Lib.hid (bgo H5.out hb6); have R6 := Lib.hid (R5.out.below hb6); have V6 := Lib.hid (V5.out.below hb6); have A6 := Lib.hid (A5.out.below hb6); have B6 := Lib.hid (B5.out.below hb6); have C6 := Lib.hid (C5.out.below hb6); have D6 := Lib.hid (D5.out.below hb6); have X6 := Lib.hid (X5.out.below hb6); have Y6 := Lib.hid (Y5.out.below hb6); have S6 := Lib.hid ho.rd; have T6 := Lib.hid hm; clear hb6 H5 R5 V5 A5 B5 C5 D5 X5 Y5 ho hm)
      | (go_at_call 17; refine (same_chn MA MB L1 ua ub _ A6.out C6.out B6.out D6.out Q1.out Q2.out).mono ?_; rintro e u7 ⟨rfl, hb7⟩; have H7 := Lib.hid (bgo H6.out hb7); have R7 := Lib.hid (R6.out.below hb7); have V7 := Lib.hid (V6.out.below hb7); have A7 := Lib.hid (A6.out.below hb7); have B7 := Lib.hid (B6.out.below hb7); have C7 := Lib.hid (C6.out.below hb7); have D7 := Lib.hid (D6.out.below hb7); have X7 := Lib.hid (X6.out.below hb7); have Y7 := Lib.hid (Y6.out.below hb7); have S7 := Lib.hid (S6.out.below hb7); have T7 := Lib.hid (T6.out.below hb7); clear hb7 H6 R6 V6 A6 B6 C6 D6 X6 Y6 S6 T6)
      | (go_at_call 17; refine (same_chn MC MD L2 uc ud _ X7.out S7.out Y7.out T7.out Q3.out Q4.out).mono ?_; rintro e u8 ⟨rfl, hb8⟩; have H8 := Lib.hid (bgo H7.out hb8); have R8 := Lib.hid (R7.out.below hb8); have V8 := Lib.hid (V7.out.below hb8); have A8 := Lib.hid (A7.out.below hb8); have B8 := Lib.hid (B7.out.below hb8); have C8 := Lib.hid (C7.out.below hb8); have D8 := Lib.hid (D7.out.below hb8); have X8 := Lib.hid (X7.out.below hb8); have Y8 := Lib.hid (Y7.out.below hb8); have S8 := Lib.hid (S7.out.below hb8); have T8 := Lib.hid (T7.out.below hb8); clear hb8 H7 R7 V7 A7 B7 C7 D7 X7 Y7 S7 T7)
      | (go_at_call 7; refine (known17_any _).mono ?_; rintro e u9 ⟨rfl, hb9⟩; have H9 := Lib.hid (bgo H8.out hb9); have R9 := Lib.hid (R8.out.below hb9); have V9 := Lib.hid (V8.out.below hb9); have A9 := Lib.hid (A8.out.below hb9); have B9 := Lib.hid (B8.out.below hb9); have C9 := Lib.hid (C8.out.below hb9); have D9 := Lib.hid (D8.out.below hb9); have X9 := Lib.hid (X8.out.below hb9); have Y9 := Lib.hid (Y8.out.below hb9); have S9 := Lib.hid (S8.out.below hb9); have T9 := Lib.hid (T8.out.below hb9); clear hb9 H8 R8 V8 A8 B8 C8 D8 X8 Y8 S8 T8))
    go_ret
    exact ⟨rfl, H9.out⟩
end Go.Proofs.Ytakickggpfbafaa
