/- FqA, FqG, FqB, FqU, ISrt, FqSum, RFVal, FqIns: in one text. -/
import Derived.Test.YtjibbnknliamkaaGreatDoorPg05
import Derived.Test.YtjibbnknliamkaaGreatDoorPg10
import Derived.Test.YtjibbnknliamkaaGreatDoorPg03
import Derived.Test.YtjibbnknliamkaaGreatDoorPg02
import Derived.Test.YtjibbnknliamkaaGreatDoorPg11
import Derived.Lib.AppendZeros
import Derived.Lib.SliceRun
import Derived.Deep.Cut
import Derived.Shelf.Abstract
namespace Go.Proofs.YtjibbnknliamkaaGreatDoor
open Go.RowKit
set_option linter.unusedVariables false
set_option linter.unusedSimpArgs false
set_option maxRecDepth 100000 in
theorem rsumQ_any (a b : Int) (w : World) (a0 : -9223372036854775808 ≤ a) (a1 : a ≤ 9223372036854775807) (b0 : -9223372036854775808 ≤ b) (b1 : b ≤ 9223372036854775807) :
    Calls Tryz.prog 98 #[.int .i64 a, .int .i64 b] w fun e w' => e = .returned (.tuple #[.int .i64 (tS a b), .bool (tF_2 a b)]) ∧ w = w' := by
  have h : ∀ w, Calls Tryz.prog 96 #[.int .i64 a, .int .i64 b, .int .i64 1099511627776] w fun e w' => e = .returned (.tuple #[.int .i64 (tS a b), .bool (tF_2 a b)]) ∧ w = w' := fun w => ref_add_any a b 1099511627776 w a0 a1 b0 b1 (by decide) (by decide)
  generalize tS a b = A at *
  generalize tF_2 a b = F at *
  go_enter Tryz.func98, Tryz.ntmps98
  go_wp2_with (go_at_call 96; refine (h _).mono ?_; rintro e w' ⟨rfl, rfl⟩)
  go_ret2
  exact ⟨rfl, rfl⟩
/-- The state of a loop that appends: entries of the call's own. -/
def LoS (W : World) (M : List Ent) (v : Value) (w : World) : Prop := OwnE W.heap.size M v w ∧ Below W.heap.size W w
theorem LoS.go {W : World} {M : List Ent} {v : Value} {w w' : World} (h : LoS W M v w) (hb : Below w.heap.size w w') : LoS W M v w' := ⟨h.1.below hb, bgo h.2 hb⟩
end Go.Proofs.YtjibbnknliamkaaGreatDoor
namespace Go.Proofs.YtjibbnknliamkaaGreatDoor
open Go.RowKit
set_option linter.unusedVariables false
set_option linter.unusedSimpArgs false
/-- What l[k:] is. -/
def tlE : Value → Nat → Value
  | .slice a n c, k => .slice (if c = k then a else a.map (·.add (k * 3))) (n - k) (c - k)
  | v, _ => v
theorem RdE.tl {L : List Ent} {v : Value} {w : World} (h : RdE L v w) (k : Nat) (hk : k ≤ L.length) : RdE (L.drop k) (tlE v k) w := by
  obtain ⟨hy, a, cap, rfl, h1, h2, h3⟩ := h
  refine ⟨hy.drop k, if cap = k then a else a.map (·.add (k * 3)), cap - k, by rw [List.length_drop]; rfl, by rw [List.length_drop]; omega, by omega, fun hp => ?_⟩
  rw [List.length_drop] at hp
  obtain ⟨b, off, rfl, hb, hc⟩ := h3 (by omega)
  refine ⟨b, off + k * 3, by rw [if_neg (by omega)]; simp [Addr.add], hb, fun j hj => ?_⟩
  rw [List.length_drop] at hj
  have e : (L.drop k).getD j Ent.z = L.getD (k + j) Ent.z := by simp [List.getD]
  rw [e, show off + k * 3 + j * 3 = off + (k + j) * 3 by omega]
  exact hc (k + j) (by omega)
/-- How much, and what, of three lists lies behind k of them. -/
def p3 (a b c : Nat) : Nat → Nat
  | 0 => 0
  | 1 => a
  | 2 => a + b
  | _ => a + b + c
def l3 (A B C : List Ent) : Nat → List Ent
  | 0 => []
  | 1 => A
  | 2 => A ++ B
  | _ => A ++ B ++ C
end Go.Proofs.YtjibbnknliamkaaGreatDoor
namespace Go.Proofs.YtjibbnknliamkaaGreatDoor
open Go.RowKit
set_option linter.unusedVariables false
set_option linter.unusedSimpArgs false
set_option maxRecDepth 100000 in
set_option maxHeartbeats 1000000 in
theorem rlowQ_any (L : List Ent) (d : Int) (v : Value) (w : World) (hv : RdE L v w) (hn : L.length ≤ 549755813888) (d0 : 0 ≤ d) :
    Calls Tryz.prog 100 #[v, .int .i64 d] w fun e w' => ∃ u, e = .returned u ∧ OwnE w.heap.size (lowL_2 L d) u w' ∧ Below w.heap.size w w' := by
  have HR := Lib.hid hv
  obtain ⟨a, cap, rfl⟩ := hv.shape
  have hE := hv.1
  clear hv
  go_enter Tryz.func100, Tryz.ntmps100
  go_wp2
  go_loopw [5, 6] (fun o i wr => ∃ k : Nat, k ≤ L.length ∧ i = .int .i64 (k : Int) ∧ Hid (LoS w (lowL_2 (L.take k) d) o wr)) (fun _ i _ => L.length - (intOf i).toNat)
  case atStart => exact ⟨0, by omega, rfl, Lib.hid ⟨OwnE.empty _ _, Below.refl _ _⟩⟩
  case round =>
    obtain ⟨k, hk, rfl, HI⟩ := hrel
    by_cases hlt : k < L.length
    · have hlt2 : (k : Int) < (L.length : Int) := by omega
      obtain ⟨-, a1, cap1, he1, -, -, hc1⟩ := HR.out.below HI.out.2
      simp only [Value.slice.injEq, true_and] at he1
      obtain ⟨rfl, rfl⟩ := he1
      obtain ⟨b, off, rfl, hb, hcell⟩ := hc1 (by omega)
      obtain ⟨c0, c1, c2⟩ := hcell k hlt
      have hx := hE.at_ k
      have HZ := Lib.hid (lowL_succ hlt d)
      have HL := Lib.hid (Nat.le_trans (lowL_len (L.take k) d) (by rw [List.length_take]; omega : (L.take k).length ≤ k))
      clear hcell hc1
      generalize L.getD k Ent.z = X at *
      by_cases hd : d < X.c
      · obtain ⟨xk, ⟨xc0, xc1⟩, xe0, xe1⟩ := hx
        have q1 : IntKind.i64.wrap (X.c - d) = X.c - d := by rw [IntKind.wrap_i64]; omega
        have q2 : wrap64 (X.c - d) = X.c - d := by unfold wrap64; omega
        have hz := HZ.out
        rw [if_pos hd] at hz
        have HZ2 := Lib.hid hz
        have HY : Hid ((⟨X.k, X.c - d, 0⟩ : Ent).ok) := Lib.hid ⟨xk, by dsimp only; omega, by dsimp only; omega⟩
        have HOA := Lib.hid (fun (w' : World) (hb : Below wr.heap.size wr w') => HI.out.1.below hb)
        have HLN : Hid ((lowL_2 (L.take k) d).length + [(⟨X.k, X.c - d, 0⟩ : Ent)].length ≤ 1099511627776) := Lib.hid (by have := HL.out; simp; omega)
        have HSZ : Hid (w.heap.size ≤ wr.heap.size) := Lib.hid HI.out.2.size
        clear hz
        go_wp2
        go_region_law (refine step_appE rfl _ _ _ rfl w.heap.size (lowL_2 (L.take k) d) [⟨X.k, X.c - d, 0⟩] _ _ rfl rfl (HOA.out _ (by first | exact b1 _ | exact (Below.refl _ _).drew.trans (b1 _) | exact (b1 _).drew)) (by first | exact (OwnE.one HY.out _).rd.src | exact ((OwnE.one HY.out _).rd.drewN 1).src) (by have := HSZ.out; simp; omega) HLN.out ?_; (intro v1 w1 ho1 hb1; have H1 : Hid (LoS w (lowL_2 (L.take (k + 1)) d) v1 w1) := Lib.hid ⟨by rw [HZ2.out]; exact ho1, (by first | exact (bal HI.out.2 _).trans hb1 | exact (bal HI.out.2.drew _).trans hb1 | exact (bal HI.out.2 _).drew.trans hb1)⟩; clear ho1 hb1))
        all_goals
          go_wp2
          exact ⟨⟨k + 1, by omega, by go_num, Lib.hid (by first | exact H1.out | exact H1.out.go (Below.refl _ _).drew)⟩, by simp [intOf]; omega⟩
      · have hz := HZ.out
        rw [if_neg hd, List.append_nil] at hz
        have H1 := HI
        rw [← hz] at H1
        clear hz HI
        go_wp2
        exact ⟨⟨k + 1, by omega, by go_num, H1⟩, by simp [intOf]; omega⟩
    · obtain rfl : k = L.length := by omega
      go_wp2
      go_ret
      exact ⟨_, rfl, by have := HI.out.1; rwa [List.take_length] at this, HI.out.2⟩
/-- The state of byKey: its entry lies in a block of its own, and what it appends to comes behind it. -/
def BkS (W : World) (x : Ent) (O : List Ent) (v : Value) (w : World) : Prop := OwnE (W.heap.size + 1) O v w ∧ At3 x W.heap.size 0 w ∧ Below W.heap.size W w
theorem BkS.go {W : World} {x : Ent} {O : List Ent} {v : Value} {w w' : World} (h : BkS W x O v w) (hb : Below w.heap.size w w') : BkS W x O v w' := ⟨h.1.below hb, h.2.1.go hb, bgo h.2.2 hb⟩
theorem BkS.size {W : World} {x : Ent} {O : List Ent} {v : Value} {w : World} (h : BkS W x O v w) : W.heap.size + 1 ≤ w.heap.size := h.2.1.lt
theorem BkS.grow {W : World} {x : Ent} {O : List Ent} {v : Value} {w : World} (h : BkS W x O v w) {O' : List Ent} {v' : Value} {w' : World} (ho : OwnE (W.heap.size + 1) O' v' w') (hb : Below (W.heap.size + 1) w w') : BkS W x O' v' w' :=
  ⟨ho, h.2.1.below hb (Nat.lt_succ_self _), h.2.2.trans (hb.mono (Nat.le_succ _))⟩
theorem insL_stepT {x y : Ent} {L : List Ent} (h : lessK x.k y.k = true) : insL x (y :: L) = x :: y :: L := by unfold insL; rw [if_pos h]
theorem insL_stepF {x y : Ent} {L : List Ent} (h : lessK x.k y.k = false) : insL x (y :: L) = y :: insL x L := by
  show (if lessK x.k y.k = true then x :: y :: L else y :: insL x L) = _
  rw [if_neg (by rw [h]; simp)]
theorem drop_at {L : List Ent} {k : Nat} (h : k < L.length) : L.drop k = L.getD k Ent.z :: L.drop (k + 1) := by
  rw [List.drop_eq_getElem_cons h]
  simp [List.getD, h]
set_option maxRecDepth 100000 in
set_option maxHeartbeats 2000000 in
theorem byKey_any (x : Ent) (L : List Ent) (v : Value) (w : World) (hv : RdE L v w) (hx : x.ok) (hn : L.length ≤ 4294967296) :
    Calls Tryz.prog 99 #[v, .agg #[.string x.k, .int .i64 x.c, .int .i64 x.e]] w fun e w' => ∃ u, e = .returned u ∧ OwnE w.heap.size (insL x L) u w' ∧ Below w.heap.size w w' := by
  have HR := Lib.hid hv
  obtain ⟨a, cap, rfl⟩ := hv.shape
  have hE := hv.1
  have H0 : Hid (BkS w x [] (.slice none 0 0) (w.alloc (.cells #[.string x.k, .int .i64 x.c, .int .i64 x.e] 64))) := Lib.hid ⟨OwnE.empty _ _, At3.new x w, b1 _⟩
  obtain ⟨V, hV⟩ : ∃ V, V = insL x L := ⟨_, rfl⟩
  rw [← hV]
  have HV := Lib.hid hV
  clear hv hV
  go_enter Tryz.func99, Tryz.ntmps99
  go_wp2
  go_loopw [5, 6, 7] (fun o t i wr => ∃ (k : Nat) (D : Bool) (O : List Ent), k ≤ L.length ∧ O.length ≤ 2 * k + 1 ∧ i = .int .i64 (k : Int) ∧ t = .bool D ∧ Hid (BkS w x O o wr) ∧ Hid ((D = true ∧ O ++ L.drop k = V) ∨ (D = false ∧ O ++ insL x (L.drop k) = V))) (fun _ _ i _ => L.length - (intOf i).toNat)
  case atStart => exact ⟨0, false, [], by omega, by simp, rfl, rfl, H0, Lib.hid (.inr ⟨rfl, by rw [HV.out]; simp⟩)⟩
  case round =>
    clear H0 HV
    obtain ⟨k, D, O, hk, hO, rfl, rfl, HI, HZ⟩ := hrel
    by_cases hlt : k < L.length
    · have hlt2 : (k : Int) < (L.length : Int) := by omega
      obtain ⟨-, a1, cap1, he1, -, -, hc1⟩ := HR.out
      simp only [Value.slice.injEq, true_and] at he1
      obtain ⟨rfl, rfl⟩ := he1
      obtain ⟨b, off, rfl, hb, hcell⟩ := hc1 (by omega)
      have HA3 := Lib.hid (fun (w' : World) (h : Below w.heap.size w w') => (hcell k hlt).below h hb)
      have hX := hE.at_ k
      have hz := HZ.out
      rw [drop_at hlt] at hz
      have hlw : w.heap.size < wr.heap.size := HI.out.2.1.lt
      clear hcell hc1 HZ hb
      generalize L.getD k Ent.z = X at *
      obtain ⟨x0, x1, x2⟩ := HI.out.2.1.zero
      obtain ⟨c0, c1, c2⟩ := HA3.out _ HI.out.2.2
      have HX := Lib.hid hX
      have HXX := Lib.hid hx
      clear hX
      cases D with
      | true =>
        have hz2 : O ++ X :: L.drop (k + 1) = V := by rcases hz with ⟨_, h⟩ | ⟨h, _⟩; exact h; cases h
        have HZ2 : Hid ((O ++ [X]) ++ L.drop (k + 1) = V) := Lib.hid (by rw [List.append_assoc]; exact hz2)
        clear hz hz2
        go_wp2
        go_quiet (fail)
        have HJ := Lib.hid (HI.out.go (below_drewN (Below.refl wr.heap.size wr) nq))
        have HS := Lib.hid (OwnE.one HX.out (wr.drewN nq)).rd.src
        have HO := Lib.hid (HJ.out.1.alloc (.cells #[.string X.k, .int .i64 X.c, .int .i64 X.e] 64))
        have HLN : Hid (O.length + [X].length ≤ 1099511627776) := Lib.hid (by simp; omega)
        have HSZ : Hid (w.heap.size + 1 ≤ ((wr.drewN nq).alloc (.cells #[.string X.k, .int .i64 X.c, .int .i64 X.e] 64)).heap.size) := Lib.hid (by have := HJ.out.size; simp at this ⊢; omega)
        go_wp2_with (at_builtin; refine wp_appE rfl _ _ _ rfl (w.heap.size + 1) O [X] _ _ rfl rfl HO.out HS.out HSZ.out HLN.out ?_; (intro v1 w1 ho1 hb1; have H1 : Hid (BkS w x (O ++ [X]) v1 w1) := Lib.hid ((HJ.out.go (b1 _)).grow ho1 hb1); clear ho1 hb1))
        exact ⟨⟨k + 1, true, _, by omega, by simp; omega, by go_num, rfl, H1, Lib.hid (.inl ⟨rfl, HZ2.out⟩)⟩, by simp [intOf]; omega⟩
      | false =>
        have hz2 : O ++ insL x (X :: L.drop (k + 1)) = V := by rcases hz with ⟨h, _⟩ | ⟨_, h⟩; cases h; exact h
        clear hz
        cases hl : lessK x.k X.k with
        | true =>
          rw [insL_stepT hl] at hz2
          have HZ2 : Hid (((O ++ [x]) ++ [X]) ++ L.drop (k + 1) = V) := Lib.hid (by rw [List.append_assoc, List.append_assoc]; exact hz2)
          obtain ⟨g1, g2, g3, g4⟩ := cmp_lt hl
          clear hz2 hl
          go_wp2
          go_quiet (fail)
          have HJ := Lib.hid (HI.out.go (below_drewN (Below.refl wr.heap.size wr) nq))
          have HS := Lib.hid (OwnE.one HXX.out (wr.drewN nq)).rd.src
          have HO := Lib.hid (HJ.out.1.alloc (.cells #[.string x.k, .int .i64 x.c, .int .i64 x.e] 64))
          have HLN : Hid (O.length + [x].length ≤ 1099511627776) := Lib.hid (by simp; omega)
          have HSZ : Hid (w.heap.size + 1 ≤ ((wr.drewN nq).alloc (.cells #[.string x.k, .int .i64 x.c, .int .i64 x.e] 64)).heap.size) := Lib.hid (by have := HJ.out.size; simp at this ⊢; omega)
          have HLN2 : Hid ((O ++ [x]).length + [X].length ≤ 1099511627776) := Lib.hid (by simp; omega)
          clear x0 x1 x2 c0 c1 c2
          obtain ⟨x0, x1, x2⟩ := HJ.out.2.1.zero
          go_wp2_with (first
            | (at_builtin; refine wp_appE rfl _ _ _ rfl (w.heap.size + 1) O [x] _ _ rfl rfl HO.out HS.out HSZ.out HLN.out ?_; (intro v1 w1 ho1 hb1; have H1 : Hid (BkS w x (O ++ [x]) v1 w1) := Lib.hid ((HJ.out.go (b1 _)).grow ho1 hb1); obtain ⟨c0, c1, c2⟩ := HA3.out _ H1.out.2.2; have HO1 := Lib.hid (H1.out.1.alloc (.cells #[.string X.k, .int .i64 X.c, .int .i64 X.e] 64)); have HS1 := Lib.hid (OwnE.one HX.out w1).rd.src; have HSZ1 : Hid (w.heap.size + 1 ≤ (w1.alloc (.cells #[.string X.k, .int .i64 X.c, .int .i64 X.e] 64)).heap.size) := Lib.hid (Nat.le_trans H1.out.size (b1 _).size); clear ho1 hb1 HO HS HSZ))
            | (at_builtin; refine wp_appE rfl _ _ _ rfl (w.heap.size + 1) (O ++ [x]) [X] _ _ rfl rfl HO1.out HS1.out HSZ1.out HLN2.out ?_; (intro v2 w2 ho2 hb2; have H2 : Hid (BkS w x ((O ++ [x]) ++ [X]) v2 w2) := Lib.hid ((H1.out.go (b1 _)).grow ho2 hb2); clear ho2 hb2)))
          exact ⟨⟨k + 1, true, _, by omega, by simp; omega, by go_num, rfl, H2, Lib.hid (.inl ⟨rfl, HZ2.out⟩)⟩, by simp [intOf]; omega⟩
        | false =>
          rw [insL_stepF hl] at hz2
          have HZ2 : Hid ((O ++ [X]) ++ insL x (L.drop (k + 1)) = V) := Lib.hid (by rw [List.append_assoc]; exact hz2)
          have g1 : Op.bytesLess x.k.toList X.k.toList = false := hl
          clear hz2 hl
          go_wp2
          go_quiet (fail)
          have HJ := Lib.hid (HI.out.go (below_drewN (Below.refl wr.heap.size wr) nq))
          have HS := Lib.hid (OwnE.one HX.out (wr.drewN nq)).rd.src
          have HO := Lib.hid (HJ.out.1.alloc (.cells #[.string X.k, .int .i64 X.c, .int .i64 X.e] 64))
          have HLN : Hid (O.length + [X].length ≤ 1099511627776) := Lib.hid (by simp; omega)
          have HSZ : Hid (w.heap.size + 1 ≤ ((wr.drewN nq).alloc (.cells #[.string X.k, .int .i64 X.c, .int .i64 X.e] 64)).heap.size) := Lib.hid (by have := HJ.out.size; simp at this ⊢; omega)
          go_wp2_with (at_builtin; refine wp_appE rfl _ _ _ rfl (w.heap.size + 1) O [X] _ _ rfl rfl HO.out HS.out HSZ.out HLN.out ?_; (intro v1 w1 ho1 hb1; have H1 : Hid (BkS w x (O ++ [X]) v1 w1) := Lib.hid ((HJ.out.go (b1 _)).grow ho1 hb1); clear ho1 hb1))
          exact ⟨⟨k + 1, false, _, by omega, by simp; omega, by go_num, rfl, H1, Lib.hid (.inr ⟨rfl, HZ2.out⟩)⟩, by simp [intOf]; omega⟩
    · obtain rfl : k = L.length := by omega
      have hz := HZ.out
      rw [List.drop_length] at hz
      clear HZ
      cases D with
      | true =>
        have hz2 : O = V := by rcases hz with ⟨_, h⟩ | ⟨h, _⟩; rwa [List.append_nil] at h; cases h
        subst hz2
        clear hz
        go_wp2
        go_ret
        exact ⟨_, rfl, HI.out.1.mono (Nat.le_succ _), HI.out.2.2⟩
      | false =>
        have hz2 : O ++ [x] = V := by rcases hz with ⟨h, _⟩ | ⟨_, h⟩; cases h; exact h
        subst hz2
        clear hz
        obtain ⟨x0, x1, x2⟩ := HI.out.2.1.zero
        have HXX := Lib.hid hx
        have HS := Lib.hid (OwnE.one HXX.out wr).rd.src
        have HO := Lib.hid (HI.out.1.alloc (.cells #[.string x.k, .int .i64 x.c, .int .i64 x.e] 64))
        have HLN : Hid (O.length + [x].length ≤ 1099511627776) := Lib.hid (by simp; omega)
        have HSZ : Hid (w.heap.size + 1 ≤ (wr.alloc (.cells #[.string x.k, .int .i64 x.c, .int .i64 x.e] 64)).heap.size) := Lib.hid (by have := HI.out.size; simp at this ⊢; omega)
        go_wp2_with (at_builtin; refine wp_appE rfl _ _ _ rfl (w.heap.size + 1) O [x] _ _ rfl rfl HO.out HS.out HSZ.out HLN.out ?_; (intro v1 w1 ho1 hb1; have H1 : Hid (BkS w x (O ++ [x]) v1 w1) := Lib.hid ((HI.out.go (b1 _)).grow ho1 hb1); clear ho1 hb1))
        go_ret
        exact ⟨_, rfl, H1.out.1.mono (Nat.le_succ _), H1.out.2.2⟩
end Go.Proofs.YtjibbnknliamkaaGreatDoor
namespace Go.Proofs.YtjibbnknliamkaaGreatDoor
open Go.RowKit
set_option linter.unusedVariables false
set_option linter.unusedSimpArgs false
theorem At3.one {x : Ent} {b o g : Nat} {w w' : World} (h : At3 x b o w) (ho : One g w w') (hn : b ≠ g) : At3 x b o w' := h.keep (ho.2.2 b h.lt hn)
end Go.Proofs.YtjibbnknliamkaaGreatDoor
namespace Go.Proofs.YtjibbnknliamkaaGreatDoor
open Go.RowKit
set_option linter.unusedVariables false
set_option linter.unusedSimpArgs false
theorem OwnI.cellAt {B : Nat} {L : List Int} {g n cap : Nat} {w : World} (h : OwnI B L (.slice (some ⟨g, 0, none⟩) n cap) w) {j : Nat} (hj : j < L.length) : w.cell? ⟨g, j, none⟩ = some (.int .i64 (L.getD j 0)) ∧ w.frozen? ⟨g, j, none⟩ = false := by
  obtain ⟨g', he, -, -, hc, -⟩ := h.cells (by omega)
  cases he
  exact hc j hj
theorem OwnI.put {B : Nat} {L : List Int} {g n cap : Nat} {w : World} (h : OwnI B L (.slice (some ⟨g, 0, none⟩) n cap) w) (hp : 0 < L.length) (j : Nat) {c : Int} (hc : -9223372036854775808 ≤ c ∧ c ≤ 9223372036854775807) : OwnI B (L.set j c) (.slice (some ⟨g, 0, none⟩) n cap) (w.setCell ⟨g, j, none⟩ (.int .i64 c)) := by
  obtain ⟨g', he, -, -, -, hs⟩ := h.cells hp
  cases he
  exact hs j c hc
theorem OwnI.ge {B : Nat} {L : List Int} {g n cap : Nat} {w : World} (h : OwnI B L (.slice (some ⟨g, 0, none⟩) n cap) w) : B ≤ g := by
  rcases h.2.2 with ⟨he, _⟩ | ⟨g', cap', cur, he, hb, _⟩
  · cases he
  · simp only [Value.slice.injEq, Option.some.injEq] at he
    obtain ⟨he, _⟩ := he
    cases he
    exact hb
end Go.Proofs.YtjibbnknliamkaaGreatDoor
namespace Go.Proofs.YtjibbnknliamkaaGreatDoor
open Go.RowKit
set_option linter.unusedVariables false
set_option linter.unusedSimpArgs false
def NnE (L : List Ent) : Prop := ∀ x ∈ L, 0 ≤ x.c
section
variable {W w w' : World} {a b : FQ} {v u : Value}
variable {g B : Nat} {q r : Bool} {O : List Ent} {o : Value}
end
end Go.Proofs.YtjibbnknliamkaaGreatDoor
namespace Go.Proofs.YtjibbnknliamkaaGreatDoor
open Go.RowKit
set_option linter.unusedVariables false
set_option linter.unusedSimpArgs false
set_option maxRecDepth 100000 in
set_option maxHeartbeats 4000000 in
theorem rvalQ_any (S T K : Int) (L : List Ent) (s : Bool) (a : Option Addr) (n cap : Nat) (w : World) (hr : RdE L (.slice a n cap) w) (hn : L.length ≤ 549755813888) :
    Calls Tryz.prog 78 #[.agg #[.int .i64 S, .int .i64 T, .int .i64 K, .slice a n cap, .bool s]] w fun e w' => e = .returned (.int .i64 (valQ S T K L)) ∧ Below w.heap.size w w' := by
  obtain ⟨a', cap', he⟩ := hr.shape
  simp only [Value.slice.injEq] at he
  obtain ⟨rfl, rfl, rfl⟩ := he
  have hy := hr.1
  have HR := Lib.hid hr
  clear hr
  unfold valQ
  have hz := fun w => within_any S 1 32 w
  have ht := fun w => within_any T 0 1099511627776 w
  have hk := fun w => within_any K 0 1099511627776 w
  cases hp : parQ S T K with
  | false =>
    rw [if_pos rfl]
    unfold parQ at hp
    generalize (decide (1 ≤ S) && decide (S ≤ 32)) = bs at *
    generalize (decide (0 ≤ T) && decide (T ≤ 1099511627776)) = bt at *
    generalize (decide (0 ≤ K) && decide (K ≤ 1099511627776)) = bk at *
    rcases par3 _ _ _ hp with rfl | ⟨rfl, rfl⟩ | ⟨rfl, rfl, rfl⟩
    all_goals
      clear hp
      go_enter Tryz.func78, Tryz.ntmps78
      go_wp2_with (go_at_call 87; first | ((with_reducible refine (hz _).mono ?_); rintro e w' ⟨rfl, rfl⟩) | ((with_reducible refine (ht _).mono ?_); rintro e w' ⟨rfl, rfl⟩) | ((with_reducible refine (hk _).mono ?_); rintro e w' ⟨rfl, rfl⟩))
      go_ret
      exact ⟨rfl, b1 _⟩
  | true =>
    rw [if_neg (by simp)]
    obtain ⟨p1, p2, p3, p4, p5, p6⟩ := (parQ_iff S T K).1 hp
    rw [show (decide (1 ≤ S) && decide (S ≤ 32)) = true by simp; omega] at hz
    rw [show (decide (0 ≤ T) && decide (T ≤ 1099511627776)) = true by simp; omega] at ht
    rw [show (decide (0 ≤ K) && decide (K ≤ 1099511627776)) = true by simp; omega] at hk
    clear hp p1 p3 p4 p5 p6
    by_cases hl : S < L.length
    · rw [if_pos hl]
      go_enter Tryz.func78, Tryz.ntmps78
      go_wp2_with (go_at_call 87; first | ((with_reducible refine (hz _).mono ?_); rintro e w' ⟨rfl, rfl⟩) | ((with_reducible refine (ht _).mono ?_); rintro e w' ⟨rfl, rfl⟩) | ((with_reducible refine (hk _).mono ?_); rintro e w' ⟨rfl, rfl⟩))
      go_ret
      exact ⟨rfl, b1 _⟩
    · rw [if_neg hl]
      have d2 : decide (S < (L.length : Int)) = false := decide_eq_false (by omega)
      obtain ⟨V, hV⟩ : ∃ V, V = vgoQ L L.length 0 := ⟨_, rfl⟩
      rw [← hV]
      have HV := Lib.hid hV
      clear hV hl p2
      have HS0 : Hid (RvQ w S T K (.slice a L.length cap) s (w.alloc (.cells #[.int .i64 S, .int .i64 T, .int .i64 K, .slice a L.length cap, .bool s] 43))) := Lib.hid ⟨FqS.new S T K (.slice a L.length cap) s 43 w, b1 _⟩
      go_enter Tryz.func78, Tryz.ntmps78
      go_wp2_with (go_at_call 87; first | ((with_reducible refine (hz _).mono ?_); rintro e w' ⟨rfl, rfl⟩) | ((with_reducible refine (ht _).mono ?_); rintro e w' ⟨rfl, rfl⟩) | ((with_reducible refine (hk _).mono ?_); rintro e w' ⟨rfl, rfl⟩))
      clear hz ht hk d2
      go_loopw [3, 4] (fun i _ wr => ∃ j : Nat, j ≤ L.length ∧ i = .int .i64 (j : Int) ∧ Hid (RvQ w S T K (.slice a L.length cap) s wr) ∧ Hid (vgoQ L (L.length - j) j = V)) (fun i _ _ => L.length - (intOf i).toNat)
      case atStart => exact ⟨0, by omega, rfl, HS0, Lib.hid (by rw [Nat.sub_zero]; exact HV.out.symm)⟩
      case round =>
        clear HS0 HV
        obtain ⟨j, hj, rfl, HI, HV⟩ := hrel
        obtain ⟨⟨-, -, -, q2, -⟩, -⟩ := HI.out.1
        by_cases hlt : j < L.length
        · have hlt2 : (j : Int) < (L.length : Int) := by omega
          have hv := HV.out
          rw [show L.length - j = (L.length - (j + 1)) + 1 by omega] at hv
          unfold vgoQ at hv
          obtain ⟨-, a1, cap1, he1, hcl, -, hc1⟩ := HR.out.below HI.out.2
          simp only [Value.slice.injEq, true_and] at he1
          obtain ⟨rfl, rfl⟩ := he1
          obtain ⟨b, off, rfl, hb, hcell⟩ := hc1 (by omega)
          obtain ⟨c0, c1, c2⟩ := hcell j hlt
          have HCELL := Lib.hid hcell
          clear hc1 hcell
          have hx := hy.at_ j
          have HE0 := Lib.hid (fun h => errQ_prev (L := L) (j := j) h)
          have HE1 := Lib.hid (fun h => errQ_bad (L := L) (j := j) h)
          obtain ⟨X, hX⟩ : ∃ X, X = L.getD j Ent.z := ⟨_, rfl⟩
          rw [← hX] at hx c0 c1 c2 HE0 HE1
          clear hX
          have hky := fun w => risKey_any X.k w hx.1
          obtain ⟨-, ⟨xc0, xc1⟩, xe0, xe1⟩ := hx
          have HB3 := Lib.hid (bal (HI.out.2) (.cells #[.string X.k, .int .i64 X.c, .int .i64 X.e] 64))
          have HI3 := Lib.hid (HI.out.go (b1 (.cells #[.string X.k, .int .i64 X.c, .int .i64 X.e] 64)))
          have hw1 := fun w => within_any X.c 1 1099511627776 w
          cases hK : keyB (byt X.k) with
          | false =>
            have hE : entQ X = 7 := by unfold entQ; rw [hK, if_pos rfl]
            rw [HE1.out (by rw [hE]; decide), hE, if_pos (by decide)] at hv
            subst hv
            rw [hK] at hky
            clear hE hK hw1
            go_wp2_with (go_at_call 28; refine (hky _).mono ?_; rintro e w' ⟨rfl, rfl⟩)
            go_ret
            exact ⟨rfl, HB3.out⟩
          | true =>
            rw [hK] at hky
            by_cases hbad : X.c < 1 ∨ 1099511627776 < X.c ∨ X.e ≠ 0
            · have hE : entQ X = 5 := by unfold entQ; rw [hK, if_neg (by simp), if_pos hbad]
              rw [HE1.out (by rw [hE]; decide), hE, if_pos (by decide)] at hv
              subst hv
              clear hE hK
              have hb3 : (X.c < 1 ∨ 1099511627776 < X.c) ∨ (1 ≤ X.c ∧ X.c ≤ 1099511627776 ∧ X.e ≠ 0) := by omega
              clear hbad
              rcases hb3 with hb3 | ⟨hb3, hb4, hb5⟩
              · rw [show (decide (1 ≤ X.c) && decide (X.c ≤ 1099511627776)) = false by rw [Bool.and_eq_false_iff]; simp; omega] at hw1
                clear hb3
                go_wp2_with (first
                  | (go_at_call 28; refine (hky _).mono ?_; rintro e w' ⟨rfl, rfl⟩)
                  | (go_at_call 87; (with_reducible refine (hw1 _).mono ?_); rintro e w' ⟨rfl, rfl⟩))
                go_ret
                exact ⟨rfl, HB3.out⟩
              · rw [show (decide (1 ≤ X.c) && decide (X.c ≤ 1099511627776)) = true by simp; omega] at hw1
                have hb6 : (X.e == 0) = false := by simpa using hb5
                have hb7 : (X.e != 0) = true := by simpa using hb5
                clear hb5 hb3 hb4
                go_wp2_with (first
                  | (go_at_call 28; refine (hky _).mono ?_; rintro e w' ⟨rfl, rfl⟩)
                  | (go_at_call 87; (with_reducible refine (hw1 _).mono ?_); rintro e w' ⟨rfl, rfl⟩))
                go_ret
                exact ⟨rfl, HB3.out⟩
            · have hE : entQ X = 0 := by unfold entQ; rw [hK, if_neg (by simp), if_neg hbad]
              rw [HE0.out hE] at hv
              have q0 : X.e = 0 := by omega
              have q3 : (X.e == 0) = true := by simpa using q0
              have q4 : (X.e != 0) = false := by simpa using q0
              rw [show (decide (1 ≤ X.c) && decide (X.c ≤ 1099511627776)) = true by simp; omega] at hw1
              have HKY := Lib.hid hK
              clear q0
              clear hE hK hbad
              by_cases hj0 : j = 0
              · subst hj0
                rw [prevK_zero, lessK_empty HKY.out, if_neg (by simp)] at hv
                have HV2 := Lib.hid hv
                clear hv
                simp only [Nat.zero_mul, Nat.add_zero] at c0 c1 c2
                go_wp2_with (first
                  | (go_at_call 28; refine (hky _).mono ?_; rintro e w' ⟨rfl, rfl⟩)
                  | (go_at_call 87; (with_reducible refine (hw1 _).mono ?_); rintro e w' ⟨rfl, rfl⟩))
                go_quiet (fail)
                go_wp2
                exact ⟨⟨1, by omega, rfl, Lib.hid (HI3.out.go (below_drewN (Below.refl _ _) _)), Lib.hid (by simpa using HV2.out)⟩, by simp [intOf]; omega⟩
              · obtain ⟨i, rfl⟩ : ∃ i : Nat, j = i + 1 := ⟨j - 1, by omega⟩
                have hq2 : (i : Int) < (L.length : Int) := by omega
                have hq3 : (0 : Int) ≤ (i : Int) := by omega
                have hq4 : (0 : Int) ≤ (i : Int) + 1 := by omega
                have hq5 : IntKind.i64.wrap ((i : Int) + 1 - 1) = (i : Int) := by rw [IntKind.wrap_i64]; omega
                have hq7 : wrap64 ((i : Int) + 1 - 1) = (i : Int) := by unfold wrap64; omega
                have hq8 : IntKind.i64.wrap (i : Int) = (i : Int) := by rw [IntKind.wrap_i64]; omega
                have hq6 : (0 : Int) < (i : Int) + 1 := by omega
                rw [prevK_succ] at hv
                have hlw : w.heap.size < wr.heap.size := HI.out.1.lt
                obtain ⟨⟨-, -, -, q9, -⟩, -⟩ := HI3.out.1
                have hP3 := (HCELL.out i (by omega)).below (b1 (.cells #[.string X.k, .int .i64 X.c, .int .i64 X.e] 64)) hb
                obtain ⟨z0, -, -⟩ := hP3
                obtain ⟨z3, -, -⟩ := HCELL.out i (by omega)
                generalize L.getD i Ent.z = Y at *
                rcases lessK_tri Y.k X.k with hl | hl | hl
                · rw [hl, if_neg (by simp)] at hv
                  obtain ⟨g1, g2, g3, g4⟩ := cmp_lt hl
                  have HV2 := Lib.hid hv
                  clear hv hl
                  go_wp2_with (first
                    | (go_at_call 28; refine (hky _).mono ?_; rintro e w' ⟨rfl, rfl⟩)
                    | (go_at_call 87; (with_reducible refine (hw1 _).mono ?_); rintro e w' ⟨rfl, rfl⟩))
                  go_quiet (fail)
                  go_wp2
                  exact ⟨⟨i + 1 + 1, by omega, by go_num, Lib.hid (HI3.out.go (below_drewN (Below.refl _ _) _)), HV2⟩, by simp [intOf]; omega⟩
                · have e0 : Y.k = X.k := hl
                  rw [e0] at hv z0 z3
                  rw [lessK_irr, if_pos rfl, if_pos (by decide)] at hv
                  subst hv
                  obtain ⟨g1, g2⟩ := cmp_eq X.k
                  clear hl e0
                  go_wp2_with (first
                    | (go_at_call 28; refine (hky _).mono ?_; rintro e w' ⟨rfl, rfl⟩)
                    | (go_at_call 87; (with_reducible refine (hw1 _).mono ?_); rintro e w' ⟨rfl, rfl⟩))
                  go_quiet (fail)
                  go_wp2
                  go_ret
                  exact ⟨rfl, below_drewN HB3.out _⟩
                · rw [lessK_asym hl, if_pos rfl, if_pos (by decide)] at hv
                  subst hv
                  obtain ⟨g1, g2, g3, g4⟩ := cmp_lt hl
                  clear hl
                  go_wp2_with (first
                    | (go_at_call 28; refine (hky _).mono ?_; rintro e w' ⟨rfl, rfl⟩)
                    | (go_at_call 87; (with_reducible refine (hw1 _).mono ?_); rintro e w' ⟨rfl, rfl⟩))
                  go_quiet (fail)
                  go_wp2
                  go_ret
                  exact ⟨rfl, below_drewN HB3.out _⟩
        · obtain rfl : j = L.length := by omega
          have hv := HV.out
          rw [Nat.sub_self] at hv
          subst hv
          go_wp2
          go_ret
          exact ⟨rfl, HI.out.2⟩
end Go.Proofs.YtjibbnknliamkaaGreatDoor
namespace Go.Proofs.YtjibbnknliamkaaGreatDoor
open Go.RowKit
set_option linter.unusedVariables false
set_option linter.unusedSimpArgs false
theorem pnewQ_any (S : Int) (w : World) :
    Calls Tryz.prog 179 #[.int .i64 S] w fun e w' => ∃ v, e = .returned (.tuple #[v, .int .i64 (newQE S)]) ∧ OwnQ w.heap.size (newQ S) v w' ∧ Below w.heap.size w w' := by
  have hz := fun w => isSz_any S w
  unfold newQE newQ
  by_cases hs : S < 1 ∨ 32 < S
  · rw [show (decide (1 ≤ S) && decide (S ≤ 32)) = false by rw [Bool.and_eq_false_iff]; simp; omega] at hz
    rw [if_pos hs, if_pos hs]
    clear hs
    go_enter Tryz.func179, Tryz.ntmps179
    go_wp2_with (go_at_call 145; refine (hz _).mono ?_; rintro e w' ⟨rfl, rfl⟩)
    refine bodyPost_ret (v := .tuple #[.agg #[.int .i64 0, .int .i64 0, .int .i64 0, .slice none 0 0, .bool false], .int .i64 5]) (by simp [results, Tryz.results179, go_sem, *]) rfl ⟨_, rfl, ⟨none, 0, 0, rfl, OwnE.empty _ _⟩, b1 _⟩
  · rw [show (decide (1 ≤ S) && decide (S ≤ 32)) = true by simp; omega] at hz
    rw [if_neg hs, if_neg hs]
    clear hs
    go_enter Tryz.func179, Tryz.ntmps179
    go_wp2_with (go_at_call 145; refine (hz _).mono ?_; rintro e w' ⟨rfl, rfl⟩)
    refine bodyPost_ret (v := .tuple #[.agg #[.int .i64 S, .int .i64 0, .int .i64 0, .slice none 0 0, .bool false], .int .i64 0]) (by simp [results, Tryz.results179, go_sem, *]) rfl ⟨_, rfl, ⟨none, 0, 0, rfl, OwnE.empty _ _⟩, b1 _⟩
/-- The three structs of an insertion. -/
def MI (W : World) (a : FQ) (v : Value) (k : ByteArray) (x : Int) (w : World) : Prop :=
  FqS W.heap.size a.S a.T a.K v a.s w ∧ Itm_2 (W.heap.size + 1) k x w ∧ FqS (W.heap.size + 2) 0 0 0 (.slice none 0 0) false w ∧ Below W.heap.size W w
section
variable {W w w' : World} {a : FQ} {v : Value} {k : ByteArray} {x : Int}
theorem MI.lt (h : MI W a v k x w) : W.heap.size + 2 < w.heap.size := h.2.2.1.lt
theorem MI.keep (h : MI W a v k x w) (hb : Below (W.heap.size + 3) w w') : MI W a v k x w' :=
  ⟨h.1.keep (hb.block _ (by omega)), h.2.1.keep (hb.block _ (by omega)), h.2.2.1.keep (hb.block _ (by omega)), h.2.2.2.trans (hb.mono (by omega))⟩
theorem MI.go (h : MI W a v k x w) (hb : Below w.heap.size w w') : MI W a v k x w' := h.keep (hb.mono (by have := h.lt; omega))
theorem MI.new (W : World) (a : FQ) (v : Value) (k : ByteArray) (x : Int) :
    MI W a v k x (((W.alloc (.cells #[.int .i64 a.S, .int .i64 a.T, .int .i64 a.K, v, .bool a.s] 43)).alloc (.cells #[.string k, .int .i64 x] 71)).alloc (.cells #[.int .i64 0, .int .i64 0, .int .i64 0, .slice none 0 0, .bool false] 43)) := by
  have h1 := (FqS.new a.S a.T a.K v a.s 43 W).go (b2 (.cells #[.string k, .int .i64 x] 71) (.cells #[.int .i64 0, .int .i64 0, .int .i64 0, .slice none 0 0, .bool false] 43))
  refine ⟨h1, ⟨by go_simp, by go_simp⟩, ?_, b3 _ _ _⟩
  exact ⟨⟨by go_simp, by go_simp, by go_simp, by go_simp, by go_simp⟩, by go_simp, by go_simp, by go_simp, by go_simp, by go_simp⟩
theorem MI.cells (h : MI W a v k x w) :
    (w.cell? ⟨W.heap.size, 0, none⟩ = some (.int .i64 a.S) ∧ w.cell? ⟨W.heap.size, 1, none⟩ = some (.int .i64 a.T) ∧ w.cell? ⟨W.heap.size, 2, none⟩ = some (.int .i64 a.K) ∧ w.cell? ⟨W.heap.size, 3, none⟩ = some v ∧ w.cell? ⟨W.heap.size, 4, none⟩ = some (.bool a.s)) ∧
    (w.cell? ⟨W.heap.size + 1, 0, none⟩ = some (.string k) ∧ w.cell? ⟨W.heap.size + 1, 1, none⟩ = some (.int .i64 x)) ∧
    (w.cell? ⟨W.heap.size + 2, 0, none⟩ = some (.int .i64 0) ∧ w.cell? ⟨W.heap.size + 2, 1, none⟩ = some (.int .i64 0) ∧ w.cell? ⟨W.heap.size + 2, 2, none⟩ = some (.int .i64 0) ∧ w.cell? ⟨W.heap.size + 2, 3, none⟩ = some (.slice none 0 0) ∧ w.cell? ⟨W.heap.size + 2, 4, none⟩ = some (.bool false)) ∧
    (w.frozen? ⟨W.heap.size + 2, 0, none⟩ = false ∧ w.frozen? ⟨W.heap.size + 2, 1, none⟩ = false ∧ w.frozen? ⟨W.heap.size + 2, 2, none⟩ = false ∧ w.frozen? ⟨W.heap.size + 2, 3, none⟩ = false ∧ w.frozen? ⟨W.heap.size + 2, 4, none⟩ = false) :=
  ⟨h.1.1, h.2.1, h.2.2.1.1, h.2.2.1.2⟩
end
theorem ValQ.nn {S T K : Int} {L : List Ent} (h : ValQ S T K L) : NnE L := fun x hx => by
  obtain ⟨i, hi, he⟩ := List.mem_iff_getElem.1 hx
  have h1 := h.ent i hi
  have e : L.getD i Ent.z = x := by simp [List.getD, hi, he]
  rw [e] at h1
  have := (entQ_zero h1).2.1
  omega
theorem itemQ {k : List Int} {x : Int} (h : itemE k x = 0) : keyB k = true ∧ 1 ≤ x ∧ x ≤ 4294967295 := by
  unfold itemE at h
  cases hk : keyB k with
  | false => rw [hk, if_pos rfl] at h; cases h
  | true =>
    rw [hk, if_neg (by simp)] at h
    by_cases hx : x < 1 ∨ 4294967295 < x
    · rw [if_pos hx] at h; cases h
    · exact ⟨rfl, by omega, by omega⟩
end Go.Proofs.YtjibbnknliamkaaGreatDoor
