/- The contracts of the reference's lower, byKey. -/
import Derived.Test.YtmmdnomfpfcjiaaFqA
namespace Go.Proofs.Ytmmdnomfpfcjiaa
open Go.RowKit
set_option linter.unusedVariables false
set_option linter.unusedSimpArgs false
set_option maxRecDepth 100000 in
set_option maxHeartbeats 1000000 in
theorem rlowQ_any (L : List Ent) (d : Int) (v : Value) (w : World) (hv : RdE L v w) (hn : L.length ≤ 549755813888) (d0 : 0 ≤ d) :
    Calls Try.prog 33 #[v, .int .i64 d] w fun e w' => ∃ u, e = .returned u ∧ OwnE w.heap.size (lowL L d) u w' ∧ Below w.heap.size w w' := by
  have HR := Lib.hid hv
  obtain ⟨a, cap, rfl⟩ := hv.shape
  have hE := hv.1
  clear hv
  go_enter Try.func33, Try.ntmps33
  go_wp2
  go_loopw [5, 6] (fun o i wr => ∃ k : Nat, k ≤ L.length ∧ i = .int .i64 (k : Int) ∧ Hid (LoS w (lowL (L.take k) d) o wr)) (fun _ i _ => L.length - (intOf i).toNat)
  case atStart => exact ⟨0, by omega, rfl, Lib.hid ⟨OwnE.empty _ _, Below.refl _ _⟩⟩
  case round =>
    obtain ⟨k, hk, rfl, HI⟩ := hrel
    by_cases hlt : k < L.length
    · have hlt2 : (k : Int) < (L.length : Int) := by omega
      obtain ⟨-, a1, cap1, he1, -, -, hc1⟩ := HR.out.below HI.out.2
      simp only [Value.slice.injEq, true_and] at he1
      obtain ⟨rfl, rfl⟩ := he1
      obtain ⟨b, off, rfl, hb, hcell⟩ := hc1 (by omega)
      obtain ⟨c0, c1, c2⟩ := hcell k hlt
      have hx := hE.at_ k
      have HZ := Lib.hid (lowL_succ hlt d)
      have HL := Lib.hid (Nat.le_trans (lowL_len (L.take k) d) (by rw [List.length_take]; omega : (L.take k).length ≤ k))
      clear hcell hc1
      generalize L.getD k Ent.z = X at *
      by_cases hd : d < X.c
      · obtain ⟨xk, ⟨xc0, xc1⟩, xe0, xe1⟩ := hx
        have q1 : IntKind.i64.wrap (X.c - d) = X.c - d := by rw [IntKind.wrap_i64]; omega
        have q2 : wrap64 (X.c - d) = X.c - d := by unfold wrap64; omega
        have hz := HZ.out
        rw [if_pos hd] at hz
        have HZ2 := Lib.hid hz
        have HY : Hid ((⟨X.k, X.c - d, 0⟩ : Ent).ok) := Lib.hid ⟨xk, by dsimp only; omega, by dsimp only; omega⟩
        have HOA := Lib.hid (fun (w' : World) (hb : Below wr.heap.size wr w') => HI.out.1.below hb)
        have HLN : Hid ((lowL (L.take k) d).length + [(⟨X.k, X.c - d, 0⟩ : Ent)].length ≤ 1099511627776) := Lib.hid (by have := HL.out; simp; omega)
        have HSZ : Hid (w.heap.size ≤ wr.heap.size) := Lib.hid HI.out.2.size
        clear hz
        go_wp2
        go_region_law (refine step_appE rfl _ _ _ rfl w.heap.size (lowL (L.take k) d) [⟨X.k, X.c - d, 0⟩] _ _ rfl rfl (HOA.out _ (by first | exact b1 _ | exact (Below.refl _ _).drew.trans (b1 _) | exact (b1 _).drew)) (by first | exact (OwnE.one HY.out _).rd.src | exact ((OwnE.one HY.out _).rd.drewN 1).src) (by have := HSZ.out; simp; omega) HLN.out ?_; (intro v1 w1 ho1 hb1; have H1 : Hid (LoS w (lowL (L.take (k + 1)) d) v1 w1) := Lib.hid ⟨by rw [HZ2.out]; exact ho1, (by first | exact (bal HI.out.2 _).trans hb1 | exact (bal HI.out.2.drew _).trans hb1 | exact (bal HI.out.2 _).drew.trans hb1)⟩; clear ho1 hb1))
        all_goals
          go_wp2
          exact ⟨⟨k + 1, by omega, by go_num, Lib.hid (by first | exact H1.out | exact H1.out.go (Below.refl _ _).drew)⟩, by simp [intOf]; omega⟩
      · have hz := HZ.out
        rw [if_neg hd, List.append_nil] at hz
        have H1 := HI
        rw [← hz] at H1
        clear hz HI
        go_wp2
        exact ⟨⟨k + 1, by omega, by go_num, H1⟩, by simp [intOf]; omega⟩
    · obtain rfl : k = L.length := by omega
      go_wp2
      go_ret
      exact ⟨_, rfl, by have := HI.out.1; rwa [List.take_length] at this, HI.out.2⟩
/-- The state of byKey: its entry lies in a block of its own, and what it appends to comes behind it. -/
def BkS (W : World) (x : Ent) (O : List Ent) (v : Value) (w : World) : Prop := OwnE (W.heap.size + 1) O v w ∧ At3 x W.heap.size 0 w ∧ Below W.heap.size W w
theorem BkS.go {W : World} {x : Ent} {O : List Ent} {v : Value} {w w' : World} (h : BkS W x O v w) (hb : Below w.heap.size w w') : BkS W x O v w' := ⟨h.1.below hb, h.2.1.go hb, bgo h.2.2 hb⟩
theorem BkS.size {W : World} {x : Ent} {O : List Ent} {v : Value} {w : World} (h : BkS W x O v w) : W.heap.size + 1 ≤ w.heap.size := h.2.1.lt
theorem BkS.grow {W : World} {x : Ent} {O : List Ent} {v : Value} {w : World} (h : BkS W x O v w) {O' : List Ent} {v' : Value} {w' : World} (ho : OwnE (W.heap.size + 1) O' v' w') (hb : Below (W.heap.size + 1) w w') : BkS W x O' v' w' :=
  ⟨ho, h.2.1.below hb (Nat.lt_succ_self _), h.2.2.trans (hb.mono (Nat.le_succ _))⟩
theorem insL_stepT {x y : Ent} {L : List Ent} (h : lessK x.k y.k = true) : insL x (y :: L) = x :: y :: L := by unfold insL; rw [if_pos h]
theorem insL_stepF {x y : Ent} {L : List Ent} (h : lessK x.k y.k = false) : insL x (y :: L) = y :: insL x L := by
  show (if lessK x.k y.k = true then x :: y :: L else y :: insL x L) = _
  rw [if_neg (by rw [h]; simp)]
theorem drop_at {L : List Ent} {k : Nat} (h : k < L.length) : L.drop k = L.getD k Ent.z :: L.drop (k + 1) := by
  rw [List.drop_eq_getElem_cons h]
  simp [List.getD, h]
set_option maxRecDepth 100000 in
set_option maxHeartbeats 2000000 in
theorem byKey_any (x : Ent) (L : List Ent) (v : Value) (w : World) (hv : RdE L v w) (hx : x.ok) (hn : L.length ≤ 4294967296) :
    Calls Try.prog 32 #[v, .agg #[.string x.k, .int .i64 x.c, .int .i64 x.e]] w fun e w' => ∃ u, e = .returned u ∧ OwnE w.heap.size (insL x L) u w' ∧ Below w.heap.size w w' := by
  have HR := Lib.hid hv
  obtain ⟨a, cap, rfl⟩ := hv.shape
  have hE := hv.1
  have H0 : Hid (BkS w x [] (.slice none 0 0) (w.alloc (.cells #[.string x.k, .int .i64 x.c, .int .i64 x.e] 49))) := Lib.hid ⟨OwnE.empty _ _, At3.new x w, b1 _⟩
  obtain ⟨V, hV⟩ : ∃ V, V = insL x L := ⟨_, rfl⟩
  rw [← hV]
  have HV := Lib.hid hV
  clear hv hV
  go_enter Try.func32, Try.ntmps32
  go_wp2
  go_loopw [5, 6, 7] (fun o t i wr => ∃ (k : Nat) (D : Bool) (O : List Ent), k ≤ L.length ∧ O.length ≤ 2 * k + 1 ∧ i = .int .i64 (k : Int) ∧ t = .bool D ∧ Hid (BkS w x O o wr) ∧ Hid ((D = true ∧ O ++ L.drop k = V) ∨ (D = false ∧ O ++ insL x (L.drop k) = V))) (fun _ _ i _ => L.length - (intOf i).toNat)
  case atStart => exact ⟨0, false, [], by omega, by simp, rfl, rfl, H0, Lib.hid (.inr ⟨rfl, by rw [HV.out]; simp⟩)⟩
  case round =>
    clear H0 HV
    obtain ⟨k, D, O, hk, hO, rfl, rfl, HI, HZ⟩ := hrel
    by_cases hlt : k < L.length
    · have hlt2 : (k : Int) < (L.length : Int) := by omega
      obtain ⟨-, a1, cap1, he1, -, -, hc1⟩ := HR.out
      simp only [Value.slice.injEq, true_and] at he1
      obtain ⟨rfl, rfl⟩ := he1
      obtain ⟨b, off, rfl, hb, hcell⟩ := hc1 (by omega)
      have HA3 := Lib.hid (fun (w' : World) (h : Below w.heap.size w w') => (hcell k hlt).below h hb)
      have hX := hE.at_ k
      have hz := HZ.out
      rw [drop_at hlt] at hz
      have hlw : w.heap.size < wr.heap.size := HI.out.2.1.lt
      clear hcell hc1 HZ hb
      generalize L.getD k Ent.z = X at *
      obtain ⟨x0, x1, x2⟩ := HI.out.2.1.zero
      obtain ⟨c0, c1, c2⟩ := HA3.out _ HI.out.2.2
      have HX := Lib.hid hX
      have HXX := Lib.hid hx
      clear hX
      cases D with
      | true =>
        have hz2 : O ++ X :: L.drop (k + 1) = V := by rcases hz with ⟨_, h⟩ | ⟨h, _⟩; exact h; cases h
        have HZ2 : Hid ((O ++ [X]) ++ L.drop (k + 1) = V) := Lib.hid (by rw [List.append_assoc]; exact hz2)
        clear hz hz2
        go_wp2
        go_quiet (fail)
        have HJ := Lib.hid (HI.out.go (below_drewN (Below.refl wr.heap.size wr) nq))
        have HS := Lib.hid (OwnE.one HX.out (wr.drewN nq)).rd.src
        have HO := Lib.hid (HJ.out.1.alloc (.cells #[.string X.k, .int .i64 X.c, .int .i64 X.e] 49))
        have HLN : Hid (O.length + [X].length ≤ 1099511627776) := Lib.hid (by simp; omega)
        have HSZ : Hid (w.heap.size + 1 ≤ ((wr.drewN nq).alloc (.cells #[.string X.k, .int .i64 X.c, .int .i64 X.e] 49)).heap.size) := Lib.hid (by have := HJ.out.size; simp at this ⊢; omega)
        go_wp2_with (at_builtin; refine wp_appE rfl _ _ _ rfl (w.heap.size + 1) O [X] _ _ rfl rfl HO.out HS.out HSZ.out HLN.out ?_; (intro v1 w1 ho1 hb1; have H1 : Hid (BkS w x (O ++ [X]) v1 w1) := Lib.hid ((HJ.out.go (b1 _)).grow ho1 hb1); clear ho1 hb1))
        exact ⟨⟨k + 1, true, _, by omega, by simp; omega, by go_num, rfl, H1, Lib.hid (.inl ⟨rfl, HZ2.out⟩)⟩, by simp [intOf]; omega⟩
      | false =>
        have hz2 : O ++ insL x (X :: L.drop (k + 1)) = V := by rcases hz with ⟨h, _⟩ | ⟨_, h⟩; cases h; exact h
        clear hz
        cases hl : lessK x.k X.k with
        | true =>
          rw [insL_stepT hl] at hz2
          have HZ2 : Hid (((O ++ [x]) ++ [X]) ++ L.drop (k + 1) = V) := Lib.hid (by rw [List.append_assoc, List.append_assoc]; exact hz2)
          obtain ⟨g1, g2, g3, g4⟩ := cmp_lt hl
          clear hz2 hl
          go_wp2
          go_quiet (fail)
          have HJ := Lib.hid (HI.out.go (below_drewN (Below.refl wr.heap.size wr) nq))
          have HS := Lib.hid (OwnE.one HXX.out (wr.drewN nq)).rd.src
          have HO := Lib.hid (HJ.out.1.alloc (.cells #[.string x.k, .int .i64 x.c, .int .i64 x.e] 49))
          have HLN : Hid (O.length + [x].length ≤ 1099511627776) := Lib.hid (by simp; omega)
          have HSZ : Hid (w.heap.size + 1 ≤ ((wr.drewN nq).alloc (.cells #[.string x.k, .int .i64 x.c, .int .i64 x.e] 49)).heap.size) := Lib.hid (by have := HJ.out.size; simp at this ⊢; omega)
          have HLN2 : Hid ((O ++ [x]).length + [X].length ≤ 1099511627776) := Lib.hid (by simp; omega)
          clear x0 x1 x2 c0 c1 c2
          obtain ⟨x0, x1, x2⟩ := HJ.out.2.1.zero
          go_wp2_with (first
            | (at_builtin; refine wp_appE rfl _ _ _ rfl (w.heap.size + 1) O [x] _ _ rfl rfl HO.out HS.out HSZ.out HLN.out ?_; (intro v1 w1 ho1 hb1; have H1 : Hid (BkS w x (O ++ [x]) v1 w1) := Lib.hid ((HJ.out.go (b1 _)).grow ho1 hb1); obtain ⟨c0, c1, c2⟩ := HA3.out _ H1.out.2.2; have HO1 := Lib.hid (H1.out.1.alloc (.cells #[.string X.k, .int .i64 X.c, .int .i64 X.e] 49)); have HS1 := Lib.hid (OwnE.one HX.out w1).rd.src; have HSZ1 : Hid (w.heap.size + 1 ≤ (w1.alloc (.cells #[.string X.k, .int .i64 X.c, .int .i64 X.e] 49)).heap.size) := Lib.hid (Nat.le_trans H1.out.size (b1 _).size); clear ho1 hb1 HO HS HSZ))
            | (at_builtin; refine wp_appE rfl _ _ _ rfl (w.heap.size + 1) (O ++ [x]) [X] _ _ rfl rfl HO1.out HS1.out HSZ1.out HLN2.out ?_; (intro v2 w2 ho2 hb2; have H2 : Hid (BkS w x ((O ++ [x]) ++ [X]) v2 w2) := Lib.hid ((H1.out.go (b1 _)).grow ho2 hb2); clear ho2 hb2)))
          exact ⟨⟨k + 1, true, _, by omega, by simp; omega, by go_num, rfl, H2, Lib.hid (.inl ⟨rfl, HZ2.out⟩)⟩, by simp [intOf]; omega⟩
        | false =>
          rw [insL_stepF hl] at hz2
          have HZ2 : Hid ((O ++ [X]) ++ insL x (L.drop (k + 1)) = V) := Lib.hid (by rw [List.append_assoc]; exact hz2)
          have g1 : Op.bytesLess x.k.toList X.k.toList = false := hl
          clear hz2 hl
          go_wp2
          go_quiet (fail)
          have HJ := Lib.hid (HI.out.go (below_drewN (Below.refl wr.heap.size wr) nq))
          have HS := Lib.hid (OwnE.one HX.out (wr.drewN nq)).rd.src
          have HO := Lib.hid (HJ.out.1.alloc (.cells #[.string X.k, .int .i64 X.c, .int .i64 X.e] 49))
          have HLN : Hid (O.length + [X].length ≤ 1099511627776) := Lib.hid (by simp; omega)
          have HSZ : Hid (w.heap.size + 1 ≤ ((wr.drewN nq).alloc (.cells #[.string X.k, .int .i64 X.c, .int .i64 X.e] 49)).heap.size) := Lib.hid (by have := HJ.out.size; simp at this ⊢; omega)
          go_wp2_with (at_builtin; refine wp_appE rfl _ _ _ rfl (w.heap.size + 1) O [X] _ _ rfl rfl HO.out HS.out HSZ.out HLN.out ?_; (intro v1 w1 ho1 hb1; have H1 : Hid (BkS w x (O ++ [X]) v1 w1) := Lib.hid ((HJ.out.go (b1 _)).grow ho1 hb1); clear ho1 hb1))
          exact ⟨⟨k + 1, false, _, by omega, by simp; omega, by go_num, rfl, H1, Lib.hid (.inr ⟨rfl, HZ2.out⟩)⟩, by simp [intOf]; omega⟩
    · obtain rfl : k = L.length := by omega
      have hz := HZ.out
      rw [List.drop_length] at hz
      clear HZ
      cases D with
      | true =>
        have hz2 : O = V := by rcases hz with ⟨_, h⟩ | ⟨h, _⟩; rwa [List.append_nil] at h; cases h
        subst hz2
        clear hz
        go_wp2
        go_ret
        exact ⟨_, rfl, HI.out.1.mono (Nat.le_succ _), HI.out.2.2⟩
      | false =>
        have hz2 : O ++ [x] = V := by rcases hz with ⟨h, _⟩ | ⟨_, h⟩; cases h; exact h
        subst hz2
        clear hz
        obtain ⟨x0, x1, x2⟩ := HI.out.2.1.zero
        have HXX := Lib.hid hx
        have HS := Lib.hid (OwnE.one HXX.out wr).rd.src
        have HO := Lib.hid (HI.out.1.alloc (.cells #[.string x.k, .int .i64 x.c, .int .i64 x.e] 49))
        have HLN : Hid (O.length + [x].length ≤ 1099511627776) := Lib.hid (by simp; omega)
        have HSZ : Hid (w.heap.size + 1 ≤ (wr.alloc (.cells #[.string x.k, .int .i64 x.c, .int .i64 x.e] 49)).heap.size) := Lib.hid (by have := HI.out.size; simp at this ⊢; omega)
        go_wp2_with (at_builtin; refine wp_appE rfl _ _ _ rfl (w.heap.size + 1) O [x] _ _ rfl rfl HO.out HS.out HSZ.out HLN.out ?_; (intro v1 w1 ho1 hb1; have H1 : Hid (BkS w x (O ++ [x]) v1 w1) := Lib.hid ((HI.out.go (b1 _)).grow ho1 hb1); clear ho1 hb1))
        go_ret
        exact ⟨_, rfl, H1.out.1.mono (Nat.le_succ _), H1.out.2.2⟩
end Go.Proofs.Ytmmdnomfpfcjiaa
