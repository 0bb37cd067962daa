/- MapE, PFind, PIdx, InsN, FqO, PFnd2, Find9, MeetX, FqA, RowQ, FqMg, FqFnd: in one text. -/
import Derived.Test.YtjibbnknliamkaaGreatDoorPg00
import Derived.Test.YtjibbnknliamkaaGreatDoorPg01
import Derived.Test.YtjibbnknliamkaaGreatDoorPg02
import Derived.Test.YtjibbnknliamkaaGreatDoorPg03
import Derived.Test.YtjibbnknliamkaaGreatDoorPg04
import Derived.Test.YtjibbnknliamkaaGreatDoorPg05
import Derived.Test.YtjibbnknliamkaaGreatDoorPg06
import Derived.Test.YtjibbnknliamkaaGreatDoorPg07
import Derived.Test.YtjibbnknliamkaaGreatDoorPg08
import Derived.Test.YtjibbnknliamkaaGreatDoorPg09
import Derived.Test.YtjibbnknliamkaaGreatDoorPg10
import Derived.Test.YtjibbnknliamkaaGreatDoorPg11
import Derived.Test.YtjibbnknliamkaaGreatDoorPg12
import Derived.Test.YtjibbnknliamkaaGreatDoorPg13
import Derived.Test.YtjibbnknliamkaaGreatDoorPg14
import Derived.Test.YtjibbnknliamkaaGreatDoorPg15
import Derived.Test.YtjibbnknliamkaaGreatDoorPg16
import Derived.Test.YtjibbnknliamkaaGreatDoorPg17
import Derived.Test.YtjibbnknliamkaaGreatDoorPg18
import Derived.Test.YtjibbnknliamkaaGreatDoorPg19
import Derived.Test.YtjibbnknliamkaaGreatDoorPg20
import Derived.Test.YtjibbnknliamkaaGreatDoorPg21
import Derived.Test.YtjibbnknliamkaaGreatDoorPg22
import Derived.Test.YtjibbnknliamkaaGreatDoorPg23
import Derived.Test.YtjibbnknliamkaaGreatDoorPg24
import Derived.Test.YtjibbnknliamkaaGreatDoorPg25
import Derived.Test.YtjibbnknliamkaaGreatDoorPg26
import Derived.Test.YtjibbnknliamkaaGreatDoorPg27
import Derived.Test.YtjibbnknliamkaaGreatDoorPg28
import Derived.Test.YtjibbnknliamkaaGreatDoorPg29
import Derived.Test.YtjibbnknliamkaaGreatDoorPg30
import Derived.Test.YtjibbnknliamkaaGreatDoorPg31
import Derived.Test.YtjibbnknliamkaaGreatDoorPg32
import Derived.Test.YtjibbnknliamkaaGreatDoorPg33
import Derived.Test.YtjibbnknliamkaaGreatDoorPg34
import Derived.Test.YtjibbnknliamkaaGreatDoorPg35
import Derived.Test.YtjibbnknliamkaaGreatDoorPg36
import Derived.Test.YtjibbnknliamkaaGreatDoorPg37
import Derived.Lib.Strings
import Derived.Lib.Bytealg
import Derived.Maps.OwnSet
import Derived.StringKeys
import Derived.Carry
import Derived.WalkKit
import Derived.ProofKit
import Derived.Handy
import Derived.Shelf.Small.Bits
import Derived.Shelf.Strconv.Itoa0
import Derived.Shelf.Bits.Mul64
import Derived.Shelf.Spec.TrailingZeros
import Derived.Lib.SliceRun
import Derived.Shelf.Abstract
import Derived.Laws.Cover1
namespace Go.Proofs.YtjibbnknliamkaaGreatDoor
open Go.RowKit Go.Maps
set_option linter.unusedVariables false
set_option linter.unusedSimpArgs false
theorem zero_int (w : World) : (zeroValue 3).run Tryz.prog w = .ok (.int .i64 0) w := by kernel_rfl
section
variable {w : World} {ops : Array Oper} {rest : List Oper} {o : Oper} {a : Act} {Q : Exit → Act → World → Prop}
/-- Block b holds the positions of the keys of the first j entries. -/
def PosM (L : List Ent) (j b : Nat) (w : World) : Prop :=
  ∃ (D : DataW Unit) (n : Nat), n ≤ j ∧ w.ownsMap Tryz.prog 9 (plainElem Tryz.prog 3) b n D ∧
    ∀ k : ByteArray, Maps.has D (.string k.data.toList) = hasK (L.take j) k ∧ (hasK (L.take j) k = true → ∃ i : Nat, i < j ∧ sameK (L.getD i Ent.z).k k = true ∧ D.atKey (.string k.data.toList) (.lit (.int .i64 0)) = .lit (.int .i64 (i : Int)))
theorem PosM.lt {L : List Ent} {j b : Nat} {w : World} (h : PosM L j b w) : b < w.heap.size := by
  obtain ⟨D, n, hn, ho, hk⟩ := h
  exact ho.lt
theorem PosM.blk {L : List Ent} {j b : Nat} {w w' : World} (h : PosM L j b w) (hb : w'.heap[b]? = w.heap[b]?) : PosM L j b w' := by
  obtain ⟨D, n, hn, ho, hk⟩ := h
  exact ⟨D, n, hn, ownsMap_blk ho hb, hk⟩
theorem PosM.below {L : List Ent} {j b : Nat} {w w' : World} (h : PosM L j b w) (hb : Below w.heap.size w w') : PosM L j b w' := h.blk (hb.block b h.lt)
theorem PosM.drewN {L : List Ent} {j b : Nat} {w : World} (h : PosM L j b w) (n : Nat) : PosM L j b (w.drewN n) := h
theorem PosM.new (L : List Ent) (w : World) : PosM L 0 w.heap.size (w.alloc (.map #[] 0)) := ⟨.map [], 0, Nat.le_refl _, World.ownsMap_made _ _ _ _, fun k => ⟨rfl, fun h => by simp [hasK] at h⟩⟩
/-- What a look-up of a position gives: a position with this key, 0 if there is none. -/
def PosOf (L : List Ent) (j : Nat) (k : ByteArray) (c : Int) : Prop := (hasK (L.take j) k = true ∧ ∃ i : Nat, i < j ∧ sameK (L.getD i Ent.z).k k = true ∧ c = (i : Int)) ∨ (hasK (L.take j) k = false ∧ c = 0)
theorem run_pos_look {L : List Ent} {j b : Nat} {k : ByteArray} (h : PosM L j b w) (hk : k.size ≤ maxLen) :
    ∃ c : Int, PosOf L j k c ∧ (Instr.lookup 189 (.map (some b)) (.string k) true).run Tryz.prog w = .ok (.tuple #[.int .i64 c, .bool (hasK (L.take j) k)]) w := by
  obtain ⟨D, n, hn, ho, hD⟩ := h
  obtain ⟨v, ps, hrun, hR⟩ := ho.look_ok law_str Tryz.underlying189 (zero_int w) (plainElem_int (q := .i64) Tryz.underlying3 (by decide)) (key_str hk)
  obtain ⟨c, rfl, hz, _⟩ := plainElem_int_inv Tryz.underlying3 hR
  obtain ⟨h1, h2⟩ := hD k
  rw [h1] at hrun
  refine ⟨c, ?_, hrun⟩
  simp only [Prod.mk.injEq] at hz
  cases hh : hasK (L.take j) k with
  | true =>
    obtain ⟨i, hi, hs, he⟩ := h2 hh
    rw [he] at hz
    have e := hz.1
    injection e with e
    injection e with _ e
    exact .inl ⟨hh, i, hi, hs, e.symm⟩
  | false =>
    rw [atKey_of_not_has (by rw [h1]; exact hh)] at hz
    have e := hz.1
    injection e with e
    injection e with _ e
    exact .inr ⟨hh, e.symm⟩
theorem wp_pos_look (hgd : o.guard = none) (m x : Operand) (hop : o.op = Op.lookup 189 m x true) (L : List Ent) (j b : Nat) (k : ByteArray) (hm : a.eval m = .map (some b)) (hx : a.eval x = .string k)
    (h : PosM L j b w) (hk : k.size ≤ maxLen) (hK : ∀ c : Int, PosOf L j k c → wpList Tryz.prog ops Q rest (a.put o.dst (.tuple #[.int .i64 c, .bool (hasK (L.take j) k)])) w) : wpList Tryz.prog ops Q (o :: rest) a w := by
  obtain ⟨c, hc, hrun⟩ := run_pos_look h hk
  refine wpList_plain hgd fun K' hK' => ?_
  unfold Oper.wp
  simp [execOp, hop, hm, hx, hrun, Result.andThen]
  exact hK' _ _ (hK c hc)
theorem wp_pos_put (hgd : o.guard = none) (m x v : Operand) (hop : o.op = Op.mapUpdate 189 m x v) (L : List Ent) (j b : Nat) (k0 : ByteArray) (hkk : (L.getD j Ent.z).k = k0) (hj : j < L.length) (hm : a.eval m = .map (some b)) (hx : a.eval x = .string k0) (hv : a.eval v = .int .i64 (j : Int))
    (h : PosM L j b w) (hk : k0.size ≤ maxLen) (hjm : j < maxLen) (hK : ∀ w', PosM L (j + 1) b w' → w.grownBy w' (some b) → wpList Tryz.prog ops Q rest (a.put o.dst undef) w') : wpList Tryz.prog ops Q (o :: rest) a w := by
  subst hkk
  obtain ⟨D, n, hn, ho, hD⟩ := h
  have hwf : (Lit.int .i64 (j : Int)).wf = true := WalkArith.wf_i64 (by unfold maxLen at hjm; omega)
  refine wpList_mapUpdate_own w hgd m x v 189 hop 9 3 law_str Tryz.underlying189 (plainElem Tryz.prog 3) b n D hm ho (by omega) _ _ _ hx hv (key_str hk) _ [] (plainElem_int (q := .i64) Tryz.underlying3 hwf) ?_
  intro w' h1 h2
  refine hK w' ⟨_, n + 1, by omega, h1, fun k => ?_⟩ h2
  rw [hasK_succ hj]
  cases hs : sameK (L.getD j Ent.z).k k with
  | true =>
    have := (sameK_iff _ _).1 hs
    subst this
    rw [has_put_same ho.isMap (by simp [WideAt.IsKeyLit]), atKey_put_same ho.isMap (by simp [WideAt.IsKeyLit]), Bool.or_true]
    exact ⟨rfl, fun _ => ⟨j, by omega, sameK_self _, rfl⟩⟩
  | false =>
    rw [has_put_other (ne_key hs), atKey_put_other (ne_key hs), Bool.or_false]
    obtain ⟨e1, e2⟩ := hD k
    refine ⟨e1, fun hh => ?_⟩
    obtain ⟨i, hi, hr⟩ := e2 hh
    exact ⟨i, by omega, hr⟩
end
theorem run_makeMapN (n : Int) (w : World) : (Instr.makeMap 189 (some (.int .i64 n))).run Tryz.prog w = .ok (.map (some w.heap.size)) (w.alloc (.map #[] 0)) := by
  simp [Instr.makeMap, run_underlying Tryz.underlying189, asInt, Result.andThen, go_sem]
end Go.Proofs.YtjibbnknliamkaaGreatDoor
namespace Go.Proofs.YtjibbnknliamkaaGreatDoor
open Go.RowKit
set_option linter.unusedVariables false
set_option linter.unusedSimpArgs false
set_option maxRecDepth 100000 in
set_option maxHeartbeats 1000000 in
theorem pleast_any (S T : Int) (L : List Ent) (s : Bool) (a : Option Addr) (n cap : Nat) (w : World) (hr : RdE L (.slice a n cap) w) (hn : L.length ≤ 549755813888) :
    Calls Tryz.prog 184 #[.agg #[.int .i64 S, .int .i64 T, .slice a n cap, .bool s]] w fun e w' => e = .returned (.int .i64 (leastI S L)) ∧ Below w.heap.size w w' := by
  have hB := RdE.below hr (b1 (.cells #[.int .i64 S, .int .i64 T, .slice a n cap, .bool s] 41))
  obtain ⟨a', cap', he⟩ := hr.shape
  simp only [Value.slice.injEq] at he
  obtain ⟨rfl, rfl, rfl⟩ := he
  unfold leastI
  by_cases h0 : L.length = 0
  · rw [if_pos (.inl h0)]
    have h1 : ((L.length : Int) == 0) = true := by simp [h0]
    clear hB hr hn h0
    generalize L.length = N at *
    go_enter Tryz.func184, Tryz.ntmps184
    go_wp2
    go_ret
    exact ⟨rfl, b1 _⟩
  · have h1 : ((L.length : Int) == 0) = false := by simp only [beq_eq_false_iff_ne]; omega
    by_cases hS : (L.length : Int) = S
    · rw [if_neg (by omega)]
      subst hS
      obtain ⟨-, a1, cap1, he1, -, -, hc1⟩ := hr
      simp only [Value.slice.injEq, true_and] at he1
      obtain ⟨rfl, rfl⟩ := he1
      obtain ⟨b, off, rfl, hb, hcell⟩ := hc1 (by omega)
      have h3 := hcell (L.length - 1) (by omega)
      generalize L.getD (L.length - 1) Ent.z = X at *
      clear hcell hc1 hB
      obtain ⟨m, hm⟩ : ∃ m, L.length = m + 1 := ⟨L.length - 1, by omega⟩
      rw [hm] at hn h1 ⊢
      rw [hm, Nat.add_sub_cancel] at h3
      obtain ⟨-, c1, -⟩ := h3.below (b1 (.cells #[.int .i64 ((m : Int) + 1), .int .i64 T, .slice (some ⟨b, off, none⟩) (m + 1) cap, .bool s] 41)) hb
      clear hm h0
      have q1 : wrap64 (((m + 1 : Nat) : Int) - 1) = (m : Int) := by unfold wrap64; omega
      have q2 : wrap64 ((m : Int) + 1 - 1) = (m : Int) := by unfold wrap64; omega
      have q3 : (m : Int) < (m : Int) + 1 := by omega
      have q4 : ((m : Int) + 1 == 0) = false := by simp only [beq_eq_false_iff_ne]; omega
      have q5 : (0 : Int) ≤ (m : Int) := by omega
      have q6 : ((m : Int) < ((m + 1 : Nat) : Int)) := by omega
      go_enter Tryz.func184, Tryz.ntmps184
      go_wp2
      go_ret
      exact ⟨rfl, b1 _⟩
    · rw [if_pos (.inr hS)]
      have h2 : ((L.length : Int) == S) = false := by simp only [beq_eq_false_iff_ne]; exact hS
      have h3 : ((L.length : Int) != S) = true := by simp [bne, h2]
      clear hB hr hn h0 hS
      generalize L.length = N at *
      go_enter Tryz.func184, Tryz.ntmps184
      go_wp2
      go_ret
      exact ⟨rfl, b1 _⟩
end Go.Proofs.YtjibbnknliamkaaGreatDoor
namespace Go.Proofs.YtjibbnknliamkaaGreatDoor
open Go.RowKit
set_option linter.unusedVariables false
set_option linter.unusedSimpArgs false
/-- The state of positions at entry j. -/
def PosS (W : World) (L : List Ent) (j : Nat) (w : World) : Prop := PosM L j W.heap.size w ∧ Below W.heap.size W w
theorem PosS.go {W : World} {L : List Ent} {j : Nat} {w w' : World} (h : PosS W L j w) (hb : Below w.heap.size w w') : PosS W L j w' := ⟨h.1.below hb, bgo h.2 hb⟩
set_option maxRecDepth 100000 in
set_option maxHeartbeats 1000000 in
theorem pos_any (L : List Ent) (a : Option Addr) (n cap : Nat) (w : World) (hr : RdE L (.slice a n cap) w) (hn : L.length ≤ 549755813888) :
    Calls Tryz.prog 183 #[.slice a n cap] w fun e w' => e = .returned (.map (some w.heap.size)) ∧ PosM L L.length w.heap.size w' ∧ Below w.heap.size w w' := by
  obtain ⟨a', cap', he⟩ := hr.shape
  simp only [Value.slice.injEq] at he
  obtain ⟨rfl, rfl, rfl⟩ := he
  have hy := hr.1
  have HR := Lib.hid hr
  clear hr
  have hmm := run_makeMapN (L.length : Int)
  have HS0 := Lib.hid (show PosS w L 0 (w.alloc (.map #[] 0)) from ⟨PosM.new L w, b1 _⟩)
  go_enter Tryz.func183, Tryz.ntmps183
  go_wp2
  clear hmm
  go_loopw [4, 5, 11] (fun _ _ i wr => ∃ j : Nat, j ≤ L.length ∧ i = .int .i64 (j : Int) ∧ Hid (PosS w L j wr)) (fun _ _ i _ => L.length - (intOf i).toNat)
  case atStart => exact ⟨0, by omega, rfl, HS0⟩
  case round =>
    clear HS0
    obtain ⟨j, hj, rfl, HI⟩ := hrel
    by_cases hlt : j < L.length
    · have hlt2 : (j : Int) < (L.length : Int) := by omega
      have hrt := (HR.out.below HI.out.2)
      obtain ⟨-, a1, cap1, he1, -, -, hc1⟩ := hrt
      simp only [Value.slice.injEq, true_and] at he1
      obtain ⟨rfl, rfl⟩ := he1
      obtain ⟨b, off, rfl, hb, hcell⟩ := hc1 (by omega)
      obtain ⟨c0, c1, c2⟩ := hcell j hlt
      clear hc1 hcell
      have hx := hy.at_ j
      have HX : Hid ((L.getD j Ent.z).k = (L.getD j Ent.z).k) := Lib.hid rfl
      obtain ⟨X, hX⟩ : ∃ X, X = L.getD j Ent.z := ⟨_, rfl⟩
      rw [← hX] at hx c0 c1 c2
      have HX := Lib.hid hX
      clear hX
      have HI3 := Lib.hid (HI.out.go (b1 (.cells #[.string X.k, .int .i64 X.c, .int .i64 X.e] 64)))
      have HK := Lib.hid hx.1
      go_wp2_with (at_mapUpdate; refine wp_pos_put rfl _ _ _ rfl L j w.heap.size X.k (by rw [← HX.out]) hlt rfl rfl rfl HI3.out.1 HK.out (by unfold maxLen; omega) ?_; intro w4 hs4 hg4)
      have I4 := Lib.hid (show PosS w L (j + 1) w4 from ⟨hs4, HI3.out.2.grown hg4 HI3.out.2.size (fun k hk => by cases hk; omega)⟩)
      clear hs4 hg4
      go_wp2
      exact ⟨⟨j + 1, by omega, by go_num, I4⟩, by simp [intOf]; omega⟩
    · obtain rfl : j = L.length := by omega
      go_wp2
      go_ret
      exact ⟨rfl, HI.out.1, HI.out.2⟩
theorem hasK_take (L : List Ent) (k : ByteArray) : hasK (L.take L.length) k = hasK L k := by rw [List.take_length]
theorem PosOf.is {L : List Ent} {k : ByteArray} {c : Int} (h : PosOf L L.length k c) (ho : OneL L) (hk : hasK L k = true) : c = findI L k ∧ 0 ≤ c ∧ c < L.length := by
  rcases h with ⟨_, i, hi, hs, rfl⟩ | ⟨h, _⟩
  · rcases findI_cases L k with ⟨_, j, hj, e, hs2⟩ | ⟨h, _⟩
    · rw [e, ho.inj hi hj hs hs2]
      omega
    · rw [hk] at h
      cases h
  · rw [List.take_length, hk] at h
    cases h
set_option maxRecDepth 100000 in
set_option maxHeartbeats 1000000 in
theorem find_any (L : List Ent) (k : ByteArray) (l : Int) (b : Nat) (a : Option Addr) (n cap : Nat) (w : World) (hr : RdE L (.slice a n cap) w) (hp : PosM L L.length b w) (ho : OneL L) (hk : k.size ≤ maxLen) (hn : L.length ≤ 549755813888) :
    Calls Tryz.prog 154 #[.agg #[.slice a n cap, .map (some b), .int .i64 l], .string k] w fun e w' =>
      e = .returned (.tuple #[.agg #[.string (entAt L k l).k, .int .i64 (entAt L k l).c, .int .i64 (entAt L k l).e], .bool (hasK L k)]) ∧ Below w.heap.size w w' := by
  obtain ⟨a', cap', he⟩ := hr.shape
  simp only [Value.slice.injEq] at he
  obtain ⟨rfl, rfl, rfl⟩ := he
  have HP := Lib.hid (hp.below (b2 (.cells #[.slice a L.length cap, .map (some b), .int .i64 l] 191) (.cells #[.string ⟨#[]⟩, .int .i64 0, .int .i64 0] 64)))
  have HR := Lib.hid (hr.below (b2 (.cells #[.slice a L.length cap, .map (some b), .int .i64 l] 191) (.cells #[.string ⟨#[]⟩, .int .i64 0, .int .i64 0] 64)))
  have HK := Lib.hid hk
  have hz := hasK_take L k
  clear hr hp hk
  unfold entAt
  cases hh : hasK L k with
  | true =>
    rw [if_pos rfl]
    have HO := Lib.hid (fun c (h : PosOf L L.length k c) => PosOf.is h ho hh)
    go_enter Tryz.func154, Tryz.ntmps154
    go_wp2_with (at_lookup; refine wp_pos_look rfl _ _ rfl L L.length b k rfl rfl HP.out HK.out ?_)
    try rw [hz]
    try rw [hh]
    intro c hc
    obtain ⟨hc1, hc2, hc3⟩ := HO.out c hc
    obtain ⟨i, rfl⟩ : ∃ i : Nat, c = (i : Int) := ⟨c.toNat, by omega⟩
    have hi : i < L.length := by omega
    obtain ⟨-, a1, cap1, he1, -, -, hcc⟩ := HR.out
    simp only [Value.slice.injEq, true_and] at he1
    obtain ⟨rfl, rfl⟩ := he1
    obtain ⟨b6, off6, rfl, hb6, hcell6⟩ := hcc (by omega)
    obtain ⟨c0, c1, c2⟩ := hcell6 i hi
    have hi2 : (i : Int) < (L.length : Int) := by omega
    have HE : Hid ((findI L k).toNat = i) := Lib.hid (by omega)
    clear hcell6 hcc hc hc1
    generalize hX : L.getD i Ent.z = X at *
    have HX := Lib.hid hX
    clear hX
    go_wp2
    refine bodyPost_ret (v := .tuple #[.agg #[.string X.k, .int .i64 X.c, .int .i64 X.e], .bool true]) (by simp [results, Tryz.results154, go_sem, *]) rfl ⟨by rw [HE.out, HX.out], ?_⟩
    exact b2 _ _
  | false =>
    rw [if_neg (by simp)]
    go_enter Tryz.func154, Tryz.ntmps154
    go_wp2_with (at_lookup; refine wp_pos_look rfl _ _ rfl L L.length b k rfl rfl HP.out HK.out ?_; rw [hz, hh]; intro c hc; clear hc)
    refine bodyPost_ret (v := .tuple #[.agg #[.string k, .int .i64 l, .int .i64 l], .bool false]) (by simp [results, Tryz.results154, go_sem, *]) rfl ⟨rfl, ?_⟩
    exact b2 _ _
end Go.Proofs.YtjibbnknliamkaaGreatDoor
namespace Go.Proofs.YtjibbnknliamkaaGreatDoor
open Go.RowKit
set_option linter.unusedVariables false
set_option linter.unusedSimpArgs false
theorem Valid.one' {S T : Int} {L : List Ent} (h : Valid S T L) : OneL L := h.one
end Go.Proofs.YtjibbnknliamkaaGreatDoor
namespace Go.Proofs.YtjibbnknliamkaaGreatDoor
open Go.RowKit
set_option linter.unusedVariables false
set_option linter.unusedSimpArgs false
/-- The comparison of two strings as a number. -/
theorem cmpB_gt : ∀ a b : List UInt8, decide (0 < Lib.compareBytes a b) = Op.bytesLess b a
  | [], [] => by decide
  | [], _ :: _ => by simp [Lib.compareBytes, Op.bytesLess]
  | _ :: _, [] => by simp [Lib.compareBytes, Op.bytesLess]
  | a :: xs, b :: ys => by
    have ih := cmpB_gt xs ys
    unfold Lib.compareBytes Op.bytesLess
    by_cases h : a < b
    · have h2 : ¬ b < a := fun h2 => absurd (UInt8.lt_trans h h2) (UInt8.lt_irrefl a)
      have hne : (b == a) = false := by
        rw [beq_eq_false_iff_ne]
        rintro rfl
        exact absurd h h2
      simp [h, h2, hne]
    · by_cases h2 : b < a
      · simp [h, h2]
      · have he : a = b := UInt8.le_antisymm (UInt8.not_lt.1 h2) (UInt8.not_lt.1 h)
        subst he
        simp only [h, if_false, decide_false, Bool.false_or, beq_self_eq_true, Bool.true_and]
        exact ih
def cmpK (a b : ByteArray) : Int := Lib.compareBytes a.data.toList b.data.toList
theorem cmpK_bd (a b : ByteArray) : -1 ≤ cmpK a b ∧ cmpK a b ≤ 1 := cmpB_bd _ _
theorem cmpK_lt (a b : ByteArray) : cmpK a b < 0 ↔ lessK a b = true := by
  unfold cmpK lessK
  rw [Lib.toList_data, Lib.toList_data, ← cmpB_less]
  simp
theorem cmpK_gt (a b : ByteArray) : 0 < cmpK a b ↔ lessK b a = true := by
  unfold cmpK lessK
  rw [Lib.toList_data, Lib.toList_data, ← cmpB_gt]
  simp
theorem cmpK_eq (a b : ByteArray) : cmpK a b = 0 ↔ a = b := by
  have h1 := cmpK_lt a b
  have h2 := cmpK_gt a b
  constructor
  · intro h
    rcases lessK_tri a b with h3 | h3 | h3
    · have := h1.2 h3; omega
    · exact h3
    · have := h2.2 h3; omega
  · rintro rfl
    rw [lessK_irr] at h1 h2
    simp at h1 h2
    omega
end Go.Proofs.YtjibbnknliamkaaGreatDoor
namespace Go.Proofs.YtjibbnknliamkaaGreatDoor
open Go.RowKit
set_option linter.unusedVariables false
set_option linter.unusedSimpArgs false
theorem PosM.set3 {L : List Ent} {j b g : Nat} {w : World} (h : PosM L j b w) (hb : b ≠ g) (u0 u1 u2 : Value) : PosM L j b (((w.setCell ⟨g, 0, none⟩ u0).setCell ⟨g, 1, none⟩ u1).setCell ⟨g, 2, none⟩ u2) :=
  h.blk (by rw [Below.heap_setCell _ ⟨g, 2, none⟩ _ _ hb, Below.heap_setCell _ ⟨g, 1, none⟩ _ _ hb, Below.heap_setCell _ ⟨g, 0, none⟩ _ _ hb])
/-- An index that is not yet laid. -/
def Ix0 (g : Nat) (w : World) : Prop :=
  (w.cell? ⟨g, 0, none⟩ = some (.slice none 0 0) ∧ w.cell? ⟨g, 1, none⟩ = some (.map none) ∧ w.cell? ⟨g, 2, none⟩ = some (.int .i64 0)) ∧ w.frozen? ⟨g, 0, none⟩ = false ∧ w.frozen? ⟨g, 1, none⟩ = false ∧ w.frozen? ⟨g, 2, none⟩ = false
theorem Ix0.keep {g : Nat} {w w' : World} (h : Ix0 g w) (hb : w'.heap[g]? = w.heap[g]?) : Ix0 g w' := by
  obtain ⟨⟨h0, h1, h2⟩, f0, f1, f2⟩ := h
  have hc : ∀ o, w'.cell? ⟨g, o, none⟩ = w.cell? ⟨g, o, none⟩ := fun o => World.cell?_of_block (w := w) (a := ⟨g, o, none⟩) hb
  have hf : ∀ o, w'.frozen? ⟨g, o, none⟩ = w.frozen? ⟨g, o, none⟩ := fun o => World.frozen?_of_block (w := w) (a := ⟨g, o, none⟩) hb
  exact ⟨⟨(hc _).trans h0, (hc _).trans h1, (hc _).trans h2⟩, (hf _).trans f0, (hf _).trans f1, (hf _).trans f2⟩
theorem Ix0.lt {g : Nat} {w : World} (h : Ix0 g w) : g < w.heap.size := by
  have h0 := h.1.1
  unfold World.cell? at h0
  cases hb : w.heap[g]? with
  | none => simp [hb] at h0
  | some o => exact (Array.getElem?_eq_some_iff.1 hb).1
theorem Ix0.new (w : World) (t : TypeId) : Ix0 w.heap.size (w.alloc (.cells #[.slice none 0 0, .map none, .int .i64 0] t)) := ⟨⟨by go_simp, by go_simp, by go_simp⟩, by go_simp, by go_simp, by go_simp⟩
/-- The state of indexOf. -/
def IxS (W : World) (S T : Int) (v : Value) (s : Bool) (w : World) : Prop := TopS W.heap.size S T v s w ∧ Below W.heap.size W w ∧ Ix0 (W.heap.size + 1) w
theorem IxS.go {W : World} {S T : Int} {v : Value} {s : Bool} {w w' : World} (h : IxS W S T v s w) (hb : Below w.heap.size w w') : IxS W S T v s w' := ⟨h.1.below hb h.1.lt, bgo h.2.1 hb, h.2.2.keep (hb.block _ h.2.2.lt)⟩
set_option maxRecDepth 100000 in
set_option maxHeartbeats 4000000 in
theorem iof_any (S T : Int) (L : List Ent) (s : Bool) (a : Option Addr) (n cap : Nat) (w : World) (hr : RdE L (.slice a n cap) w) (hn : L.length ≤ 549755813888) :
    Calls Tryz.prog 153 #[.agg #[.int .i64 S, .int .i64 T, .slice a n cap, .bool s]] w fun e w' =>
      ∃ b : Nat, e = .returned (.agg #[.slice a n cap, .map (some b), .int .i64 (leastI S L)]) ∧ PosM L L.length b w' ∧ Below w.heap.size w w' := by
  obtain ⟨a', cap', he⟩ := hr.shape
  simp only [Value.slice.injEq] at he
  obtain ⟨rfl, rfl, rfl⟩ := he
  have HP := Lib.hid (fun (w' : World) (hb : Below w.heap.size w w') => pos_any L a L.length cap w' (hr.below hb) hn)
  have HL := Lib.hid (fun (w' : World) (hb : Below w.heap.size w w') => pleast_any S T L s a L.length cap w' (hr.below hb) hn)
  clear hr
  have HI0 := Lib.hid (show IxS w S T (.slice a L.length cap) s ((w.alloc (.cells #[.int .i64 S, .int .i64 T, .slice a L.length cap, .bool s] 41)).alloc (.cells #[.slice none 0 0, .map none, .int .i64 0] 191)) from ⟨(TopS.new S T _ s _ w).below (b1 _) (by simp), b2 _ _, by have := Ix0.new (w.alloc (.cells #[.int .i64 S, .int .i64 T, .slice a L.length cap, .bool s] 41)) 191; simpa using this⟩)
  go_enter Tryz.func153, Tryz.ntmps153
  go_wp2
  go_region_law (go_simp; first
    | (go_at_call 183; refine (HP.out _ (by first | exact (HI0.out.go (Below.refl _ _).drew).2.1 | exact HI1.out.2.1 | exact (HI1.out.go (Below.refl _ _).drew).2.1)).mono ?_; rintro e w2 ⟨rfl, hp, hb⟩; have HJ : Hid (IxS w S T (.slice a L.length cap) s w2) := Lib.hid (by first | exact (HI0.out.go (Below.refl _ _).drew).go hb | exact HI1.out.go hb | exact (HI1.out.go (Below.refl _ _).drew).go hb); have HPM := Lib.hid hp; obtain ⟨⟨z0, z1, z2, z3⟩, -⟩ := HJ.out.1; obtain ⟨⟨x0, x1, x2⟩, v0, v1, v2⟩ := HJ.out.2.2; clear hp hb)
    | (go_at_call 184; refine (HL.out _ (by first | exact (HI0.out.go (Below.refl _ _).drew).2.1 | exact HJ.out.2.1 | exact (HJ.out.go (Below.refl _ _).drew).2.1)).mono ?_; rintro e w3 ⟨rfl, hb⟩; have HI1 : Hid (IxS w S T (.slice a L.length cap) s w3) := Lib.hid (by first | exact (HI0.out.go (Below.refl _ _).drew).go hb | exact HJ.out.go hb | exact (HJ.out.go (Below.refl _ _).drew).go hb); (try (have HPN := Lib.hid (HPM.out.below hb))); obtain ⟨⟨y0, y1, y2, y3⟩, -⟩ := HI1.out.1; obtain ⟨⟨k0, k1, k2⟩, m0, m1, m2⟩ := HI1.out.2.2; clear hb))
  all_goals
    go_wp2
    first
      | (refine bodyPost_ret (v := .agg #[.slice a L.length cap, .map (some (w.heap.size + 1 + 1)), .int .i64 (leastI S L)]) (by simp [results, Tryz.results153, go_sem, *]) rfl ⟨_, rfl, ?_, ?_⟩
         · exact PosM.set3 (by simpa using HPN.out) (by omega) _ _ _
         · exact bset (bset (bset HI1.out.2.1 _ _ _ (by omega)) _ _ _ (by omega)) _ _ _ (by omega))
      | (refine bodyPost_ret (v := .agg #[.slice a L.length cap, .map (some w3.heap.size), .int .i64 (leastI S L)]) (by simp [results, Tryz.results153, go_sem, *]) rfl ⟨_, rfl, ?_, ?_⟩
         · exact PosM.set3 (by simpa using HPM.out) (by have := HI1.out.2.2.lt; omega) _ _ _
         · exact bset (bset (bset HJ.out.2.1 _ _ _ (by omega)) _ _ _ (by omega)) _ _ _ (by omega))
end Go.Proofs.YtjibbnknliamkaaGreatDoor
namespace Go.Proofs.YtjibbnknliamkaaGreatDoor
open Go.RowKit
set_option linter.unusedVariables false
set_option linter.unusedSimpArgs false
def findE (S T : Int) (L : List Ent) (k : ByteArray) : Int := if valE S T L ≠ 0 then valE S T L else if keyB (byt k) = false then 7 else 0
def findX (S T : Int) (L : List Ent) (k : ByteArray) : Ent := if findE S T L k ≠ 0 then ⟨⟨#[]⟩, 0, 0⟩ else entAt L k (leastI S L)
def findB (S T : Int) (L : List Ent) (k : ByteArray) : Bool := if findE S T L k ≠ 0 then false else hasK L k
/-- The state of Find. -/
def FnS (W : World) (S T : Int) (v : Value) (s : Bool) (w : World) : Prop := TopS W.heap.size S T v s w ∧ Below W.heap.size W w ∧ En3 (W.heap.size + 1) w
theorem FnS.go {W : World} {S T : Int} {v : Value} {s : Bool} {w w' : World} (h : FnS W S T v s w) (hb : Below w.heap.size w w') : FnS W S T v s w' := ⟨h.1.below hb h.1.lt, bgo h.2.1 hb, h.2.2.keep (hb.block _ h.2.2.lt)⟩
theorem FnS.new (W : World) (S T : Int) (v : Value) (s : Bool) : FnS W S T v s ((W.alloc (.cells #[.int .i64 S, .int .i64 T, v, .bool s] 41)).alloc (.cells #[.string ⟨#[]⟩, .int .i64 0, .int .i64 0] 64)) :=
  ⟨(TopS.new S T v s _ W).below (b1 _) (by simp), b2 _ _, ⟨by go_simp, by go_simp, by go_simp⟩, by go_simp, by go_simp, by go_simp⟩
theorem FnS.cells {W : World} {S T : Int} {v : Value} {s : Bool} {w : World} (h : FnS W S T v s w) :
    (w.cell? ⟨W.heap.size, 0, none⟩ = some (.int .i64 S) ∧ w.cell? ⟨W.heap.size, 1, none⟩ = some (.int .i64 T) ∧ w.cell? ⟨W.heap.size, 2, none⟩ = some v ∧ w.cell? ⟨W.heap.size, 3, none⟩ = some (.bool s)) ∧
    ((w.cell? ⟨W.heap.size + 1, 0, none⟩ = some (.string ⟨#[]⟩) ∧ w.cell? ⟨W.heap.size + 1, 1, none⟩ = some (.int .i64 0) ∧ w.cell? ⟨W.heap.size + 1, 2, none⟩ = some (.int .i64 0)) ∧ w.frozen? ⟨W.heap.size + 1, 0, none⟩ = false ∧ w.frozen? ⟨W.heap.size + 1, 1, none⟩ = false ∧ w.frozen? ⟨W.heap.size + 1, 2, none⟩ = false) := ⟨h.1.1, h.2.2⟩
set_option maxRecDepth 100000 in
set_option maxHeartbeats 1000000 in
theorem pfind_any (S T : Int) (L : List Ent) (s : Bool) (k : ByteArray) (a : Option Addr) (n cap : Nat) (w : World) (S0 : -9223372036854775808 ≤ S) (S1 : S ≤ 9223372036854775807) (T0 : -9223372036854775808 ≤ T) (T1 : T ≤ 9223372036854775807) (hk : k.size ≤ maxLen) (hr : RdE L (.slice a n cap) w) (hn : L.length ≤ 549755813888) :
    Calls Tryz.prog 112 #[.agg #[.int .i64 S, .int .i64 T, .slice a n cap, .bool s], .string k] w fun e w' =>
      e = .returned (.tuple #[.agg #[.string (findX S T L k).k, .int .i64 (findX S T L k).c, .int .i64 (findX S T L k).e], .bool (findB S T L k), .int .i64 (findE S T L k)]) ∧ Below w.heap.size w w' := by
  obtain ⟨a', cap', he⟩ := hr.shape
  simp only [Value.slice.injEq] at he
  obtain ⟨rfl, rfl, rfl⟩ := he
  have HR := Lib.hid hr
  have HV := Lib.hid (fun (w' : World) (hb : Below w.heap.size w w') => pval_any S T L s a L.length cap w' S0 S1 T0 T1 (hr.below hb) hn)
  have HK := Lib.hid hk
  have hit := fun w => isKey_any k w hk
  have M0 := Lib.hid (FnS.new w S T (.slice a L.length cap) s)
  clear hr hk
  unfold findX findB
  by_cases hE : valE S T L = 0
  · have hval := valE_ok hE
    rw [hE] at HV
    cases hF : keyB (byt k) with
    | true =>
      have e0 : findE S T L k = 0 := by unfold findE; rw [hE, if_neg (by decide), hF, if_neg (by simp)]
      rw [e0, if_neg (by decide), if_neg (by decide)]
      rw [hF] at hit
      have hone := hval.one'
      have HIX := Lib.hid (fun (w' : World) (hb : Below w.heap.size w w') => iof_any S T L s a L.length cap w' (HR.out.below hb) hn)
      have HFI := Lib.hid (fun (b : Nat) (w' : World) (hb : Below w.heap.size w w') (hp : PosM L L.length b w') => find_any L k (leastI S L) b a L.length cap w' (HR.out.below hb) hp hone HK.out hn)
      generalize entAt L k (leastI S L) = X at *
      generalize leastI S L = l at *
      generalize hasK L k = B at *
      clear hone hval hE hF e0
      go_enter Tryz.func112, Tryz.ntmps112
      go_wp2_with (first
        | (go_at_call 108; refine (HV.out _ M0.out.2.1).mono ?_; rintro e w2 ⟨rfl, hb2⟩; have M2 := Lib.hid (M0.out.go hb2); obtain ⟨⟨p0, p1, p2, p3⟩, ⟨o0, o1, o2⟩, g0, g1, g2⟩ := M2.out.cells; clear hb2)
        | (go_at_call 26; refine (hit _).mono ?_; rintro e w' ⟨rfl, rfl⟩)
        | (go_at_call 153; refine (HIX.out _ M2.out.2.1).mono ?_; rintro e w3 ⟨b, rfl, hp, hb3⟩; have M3 := Lib.hid (M2.out.go hb3); have HP3 := Lib.hid hp; clear hp hb3)
        | (go_at_call 154; refine (HFI.out _ _ M3.out.2.1 HP3.out).mono ?_; rintro e w4 ⟨rfl, hb4⟩; have M4 := Lib.hid (M3.out.go hb4); clear p0 p1 p2 p3 o0 o1 o2 g0 g1 g2; obtain ⟨⟨p0, p1, p2, p3⟩, ⟨o0, o1, o2⟩, g0, g1, g2⟩ := M4.out.cells; clear hb4))
      refine bodyPost_ret (v := .tuple #[.agg #[.string X.k, .int .i64 X.c, .int .i64 X.e], .bool B, .int .i64 0]) (by simp (config := { maxDischargeDepth := 8 }) [results, Tryz.results112, go_sem, *]) rfl ⟨rfl, ?_⟩
      have l3 : w.heap.size ≤ w.heap.size + 1 := by omega
      exact bset (bset (bset (bset (bset (bset M4.out.2.1 _ _ _ l3) _ _ _ l3) _ _ _ l3) _ _ _ l3) _ _ _ l3) _ _ _ l3
    | false =>
      have e0 : findE S T L k = 7 := by unfold findE; rw [hE, if_neg (by decide), hF, if_pos rfl]
      rw [e0, if_pos (by decide), if_pos (by decide)]
      rw [hF] at hit
      clear hval hE hF e0
      go_enter Tryz.func112, Tryz.ntmps112
      go_wp2_with (first
        | (go_at_call 108; refine (HV.out _ M0.out.2.1).mono ?_; rintro e w2 ⟨rfl, hb2⟩; have M2 := Lib.hid (M0.out.go hb2); obtain ⟨⟨p0, p1, p2, p3⟩, ⟨o0, o1, o2⟩, g0, g1, g2⟩ := M2.out.cells; clear hb2)
        | (go_at_call 26; refine (hit _).mono ?_; rintro e w' ⟨rfl, rfl⟩))
      refine bodyPost_ret (v := .tuple #[.agg #[.string ⟨#[]⟩, .int .i64 0, .int .i64 0], .bool false, .int .i64 7]) (by simp [results, Tryz.results112, go_sem, *]) rfl ⟨rfl, ?_⟩
      have l3 : w.heap.size ≤ w.heap.size + 1 := by omega
      exact bset (bset (bset M2.out.2.1 _ _ _ l3) _ _ _ l3) _ _ _ l3
  · have e0 : findE S T L k = valE S T L := by unfold findE; rw [if_pos hE]
    rw [e0, if_pos hE, if_pos hE]
    have hE2 : (valE S T L != 0) = true := by simpa using hE
    clear hE e0
    go_enter Tryz.func112, Tryz.ntmps112
    go_wp2_with (first
      | (go_at_call 108; refine (HV.out _ M0.out.2.1).mono ?_; rintro e w2 ⟨rfl, hb2⟩; have M2 := Lib.hid (M0.out.go hb2); obtain ⟨⟨p0, p1, p2, p3⟩, ⟨o0, o1, o2⟩, g0, g1, g2⟩ := M2.out.cells; clear hb2))
    refine bodyPost_ret (v := .tuple #[.agg #[.string ⟨#[]⟩, .int .i64 0, .int .i64 0], .bool false, .int .i64 (valE S T L)]) (by simp [results, Tryz.results112, go_sem, *]) rfl ⟨rfl, ?_⟩
    have l3 : w.heap.size ≤ w.heap.size + 1 := by omega
    exact bset (bset (bset M2.out.2.1 _ _ _ l3) _ _ _ l3) _ _ _ l3
end Go.Proofs.YtjibbnknliamkaaGreatDoor
namespace Go.Proofs.YtjibbnknliamkaaGreatDoor
open Go.RowKit
set_option linter.unusedVariables false
def OffY (i k j m : Nat) (v u : Value) (a a' : Act) : Prop := ∃ us : List Value, us.length = m ∧ a' = ⟨(((a.tmps.toList.set i v).set k u).take j ++ us ++ a.tmps.toList.drop (j + m)).toArray, a.defers⟩
theorem wp_meetY {P : Program} {s : Code} {Q : Exit → Act → World → Prop} {a : Act} {w : World} (i k j m : Nat) (R : Value → Value → World → Prop)
    (first : ∀ G : Act → World → Prop, (∀ a' w' v u, OffY i k j m v u a a' → R v u w' → G a' w') → s.wp P (Plain G) a w)
    (rest : ∀ a' w' v u, OffY i k j m v u a a' → R v u w' → Q .normal a' w') : s.wp P Q a w := by
  refine wp_mono (first (fun a' w' => ∃ v u, OffY i k j m v u a a' ∧ R v u w') (fun _ _ v u h1 h2 => ⟨v, u, h1, h2⟩)) ?_
  intro e a' w' h
  cases e with
  | normal =>
    obtain ⟨v, u, h1, h2⟩ := h
    exact rest _ _ _ _ h1 h2
  | _ => exact h.elim
end Go.Proofs.YtjibbnknliamkaaGreatDoor
namespace Go.Proofs.YtjibbnknliamkaaGreatDoor
open Go.RowKit
set_option linter.unusedVariables false
set_option linter.unusedSimpArgs false
set_option maxRecDepth 100000 in
theorem cmpKey_any (x : Ent) (k : ByteArray) (w : World) :
    Calls Tryz.prog 156 #[.agg #[.string x.k, .int .i64 x.c, .int .i64 x.e], .string k] w fun e w' => e = .returned (.int .i64 (cmpK x.k k)) ∧ Below w.heap.size w w' := by
  have h := fun w => scmp_any x.k k w
  unfold cmpK
  generalize Lib.compareBytes x.k.data.toList k.data.toList = r at *
  go_enter Tryz.func156, Tryz.ntmps156
  go_wp2_with (go_at_call 94; refine (h _).mono ?_; rintro e w' ⟨rfl, rfl⟩)
  go_ret
  exact ⟨rfl, b1 _⟩
end Go.Proofs.YtjibbnknliamkaaGreatDoor
namespace Go.Proofs.YtjibbnknliamkaaGreatDoor
open Go Go.RowKit
set_option linter.unusedVariables false
set_option linter.unusedSimpArgs false
section
variable {ops : Array Oper} {rest : List Oper} {o : Oper} {a : Act} {w : World} {Q : Exit → Act → World → Prop}
theorem lds {p : Operand} (hgd : o.guard = none) (ho : o.op = .load 9 p) {g off : Nat} (hp : a.eval p = .pointer (some ⟨g, off, none⟩)) {A : Array Value} {v : Value} (h : RowAt g A w) (hv : A[off]? = some v)
    (hK : wpList Tryz.prog ops Q rest (a.put o.dst v) w) : wpList Tryz.prog ops Q (o :: rest) a w := wp_cell hgd ho hp h Tryz.underlying9 rfl hv hK
end
end Go.Proofs.YtjibbnknliamkaaGreatDoor
namespace Go.Proofs.YtjibbnknliamkaaGreatDoor
open Go.RowKit
set_option linter.unusedVariables false
set_option linter.unusedSimpArgs false
theorem cntK_at {L : List Ent} (h : AscK L) {j : Nat} (hj : j < L.length) {k : ByteArray} (hs : sameK (L.getD j Ent.z).k k = true) : cntK_2 L k = (L.getD j Ent.z).c := by
  induction L generalizing j with
  | nil => simp at hj
  | cons x L ih =>
    show (if sameK x.k k = true then x.c else 0) + cntK_2 L k = _
    cases j with
    | zero =>
      have hs' : sameK x.k k = true := hs
      rw [if_pos hs', cntK_none (fun y hy => by
        rw [← (sameK_iff x.k k).1 hs']
        exact lessK_ne' (h.head y hy))]
      show x.c + 0 = x.c
      omega
    | succ j =>
      have hj' : j < L.length := by simpa using hj
      have e : (x :: L).getD (j + 1) Ent.z = L.getD j Ent.z := by simp [List.getD]
      rw [e] at hs ⊢
      have hm : L.getD j Ent.z ∈ L := by
        rw [show L.getD j Ent.z = L[j] by simp [List.getD, hj']]
        exact List.getElem_mem hj'
      have hn : sameK x.k k = false := by
        rw [← (sameK_iff _ _).1 hs]
        exact lessK_ne (h.head _ hm)
      rw [if_neg (by rw [hn]; simp), ih h.tail hj' hs]
      omega
end Go.Proofs.YtjibbnknliamkaaGreatDoor
namespace Go.Proofs.YtjibbnknliamkaaGreatDoor
open Go.RowKit
set_option linter.unusedVariables false
set_option linter.unusedSimpArgs false
theorem enters_cmpKey : ∀ args w, (callFunc 156 args).run Tryz.prog w = .ok (.enter 156 args) w := Go.Proofs.enters_of Tryz.func156 (by kernel_rfl) rfl
/-- All below i come before k, none from j on does. -/
def Cut (L : List Ent) (k : ByteArray) (i j : Nat) : Prop := i ≤ j ∧ j ≤ L.length ∧ (∀ q, q < i → lessK (L.getD q Ent.z).k k = true) ∧ ∀ q, j ≤ q → q < L.length → lessK (L.getD q Ent.z).k k = false
theorem asc_le {L : List Ent} (h : AscK L) {p q : Nat} (hpq : p ≤ q) (hq : q < L.length) {k : ByteArray} (hk : lessK (L.getD q Ent.z).k k = true) : lessK (L.getD p Ent.z).k k = true := by
  by_cases he : p = q
  · subst he; exact hk
  · have h1 : lessK (L.getD p Ent.z).k (L.getD q Ent.z).k = true := by
      rw [show L.getD p Ent.z = L[p]'(by omega) by simp [List.getD, show p < L.length by omega], show L.getD q Ent.z = L[q] by simp [List.getD, hq]]
      exact List.pairwise_iff_getElem.1 h p q (by omega) hq (by omega)
    exact lessK_trans h1 hk
theorem Cut.up {L : List Ent} {k : ByteArray} {i j h : Nat} (ha : AscK L) (hc : Cut L k i j) (h1 : i ≤ h) (h2 : h < j) (hl : lessK (L.getD h Ent.z).k k = true) : Cut L k (h + 1) j :=
  ⟨by omega, hc.2.1, fun q hq => asc_le ha (show q ≤ h by omega) (by have := hc.2.1; omega) hl, hc.2.2.2⟩
theorem Cut.down {L : List Ent} {k : ByteArray} {i j h : Nat} (ha : AscK L) (hc : Cut L k i j) (h1 : i ≤ h) (h2 : h < j) (hl : lessK (L.getD h Ent.z).k k = false) : Cut L k i h :=
  ⟨h1, by have := hc.2.1; omega, hc.2.2.1, fun q hq hql => by
    cases hx : lessK (L.getD q Ent.z).k k with
    | false => rfl
    | true => have := asc_le ha hq hql hx; rw [hl] at this; cases this⟩
theorem Cut.has {L : List Ent} {k : ByteArray} {i : Nat} (ha : AscK L) (hc : Cut L k i i) : (i < L.length → hasK L k = sameK (L.getD i Ent.z).k k) ∧ (¬ i < L.length → hasK L k = false) := by
  have key : ∀ q, q < L.length → sameK (L.getD q Ent.z).k k = true → q = i := by
    intro q hq hs
    have he := (sameK_iff _ _).1 hs
    by_cases h1 : q < i
    · have := hc.2.2.1 q h1
      rw [he, lessK_irr] at this
      cases this
    · by_cases h2 : q = i
      · exact h2
      · have h3 : lessK (L.getD i Ent.z).k (L.getD q Ent.z).k = true := by
          rw [show L.getD i Ent.z = L[i]'(by omega) by simp [List.getD, show i < L.length by omega], show L.getD q Ent.z = L[q] by simp [List.getD, hq]]
          exact List.pairwise_iff_getElem.1 ha i q (by omega) hq (by omega)
        have h4 := hc.2.2.2 i (Nat.le_refl _) (by omega)
        rw [← he, h3] at h4
        cases h4
  constructor
  · intro hi
    cases hs : sameK (L.getD i Ent.z).k k with
    | true =>
      unfold hasK
      rw [List.any_eq_true]
      refine ⟨L[i], List.getElem_mem hi, ?_⟩
      rw [show L.getD i Ent.z = L[i] by simp [List.getD, hi]] at hs
      exact hs
    | false =>
      cases hh : hasK L k with
      | false => rfl
      | true =>
        rcases findI_cases L k with ⟨_, q, h1, _, h3⟩ | ⟨h, _⟩
        · have := key q h1 h3
          subst this
          rw [hs] at h3; cases h3
        · rw [hh] at h; cases h
  · intro hi
    cases hh : hasK L k with
    | false => rfl
    | true =>
      rcases findI_cases L k with ⟨_, q, h1, _, h3⟩ | ⟨h, _⟩
      · have := key q h1 h3
        omega
      · rw [hh] at h; cases h
theorem fin_of {L : List Ent} {k : ByteArray} {p : Nat} {b : Bool} {w w' : World} (h : hasK L k = b) (hp : b = true → p < L.length ∧ sameK (L.getD p Ent.z).k k = true) (hb : Below w.heap.size w w') :
    ∃ q : Nat, Ending.returned (.tuple #[.int .i64 (p : Int), .bool b]) = .returned (.tuple #[.int .i64 (q : Int), .bool (hasK L k)]) ∧ (hasK L k = true → q < L.length ∧ sameK (L.getD q Ent.z).k k = true) ∧ Below w.heap.size w w' := by
  subst h
  exact ⟨p, rfl, hp, hb⟩
set_option maxRecDepth 100000 in
set_option maxHeartbeats 2000000 in
theorem bsearch_any (L : List Ent) (k : ByteArray) (v : Value) (w : World) (hv : RdE L v w) (ha : AscK L) (hn : L.length ≤ 1000) :
    Calls Tryz.prog 155 #[v, .string k, .func (.func 156) #[] #[]] w fun e w' =>
      ∃ p : Nat, e = .returned (.tuple #[.int .i64 p, .bool (hasK L k)]) ∧ (hasK L k = true → p < L.length ∧ sameK (L.getD p Ent.z).k k = true) ∧ Below w.heap.size w w' := by
  have he := enters_cmpKey
  have HR := Lib.hid hv
  obtain ⟨a, cap, rfl⟩ := hv.shape
  clear hv
  have HA := Lib.hid ha
  have HN := Lib.hid hn
  have HC0 : Hid (Cut L k 0 L.length) := Lib.hid ⟨Nat.zero_le _, Nat.le_refl _, fun q hq => by omega, fun q h1 h2 => by omega⟩
  go_enter Tryz.func155, Tryz.ntmps155
  go_wp2
  go_loopw [9, 10, 11] (fun i j _ wr => ∃ p q : Nat, i = .int .i64 (p : Int) ∧ j = .int .i64 (q : Int) ∧ Hid (Cut L k p q) ∧ Hid (Below w.heap.size w wr)) (fun i j _ _ => (intOf j).toNat - (intOf i).toNat)
  case atStart => exact ⟨0, L.length, rfl, rfl, HC0, Lib.hid (Below.refl _ _)⟩
  case round =>
    clear HC0
    obtain ⟨p, q, rfl, rfl, HC, HB⟩ := hrel
    have hpq := HC.out.1
    have hql := HC.out.2.1
    have hnn := HN.out
    by_cases hlt : p < q
    · have hlt2 : (p : Int) < (q : Int) := by omega
      obtain ⟨h, hh⟩ : ∃ h : Nat, h = (p + q) / 2 := ⟨_, rfl⟩
      have hh1 : p ≤ h := by omega
      have hh2 : h < q := by omega
      have hw1 : IntKind.u64.wrap ((p : Int) + (q : Int)) = (p : Int) + (q : Int) := by rw [IntKind.wrap_u64]; omega
      have hw2 : wrap64 ((p : Int) + (q : Int)) = (p : Int) + (q : Int) := by unfold wrap64; omega
      have hw3 : ((p : Int) + (q : Int)) / 2 = (h : Int) := by omega
      have hw4 : IntKind.i64.wrap (h : Int) = (h : Int) := by rw [IntKind.wrap_i64]; omega
      have hw5 : wrap64 (h : Int) = (h : Int) := by unfold wrap64; omega
      have hw6 : IntKind.u64.wrap (h : Int) = (h : Int) := by rw [IntKind.wrap_u64]; omega
      have hhl : (h : Int) < (L.length : Int) := by omega
      have hh0 : (0 : Int) ≤ (h : Int) := by omega
      obtain ⟨-, a1, cap1, he1, -, -, hc1⟩ := HR.out.below HB.out
      simp only [Value.slice.injEq, true_and] at he1
      obtain ⟨rfl, rfl⟩ := he1
      obtain ⟨b, off, rfl, hb, hcell⟩ := hc1 (by omega)
      obtain ⟨c0, c1, c2⟩ := hcell h (by omega)
      clear hcell hc1 hb
      have HUP := Lib.hid (fun hl => HC.out.up HA.out hh1 hh2 hl)
      have HDN := Lib.hid (fun hl => HC.out.down HA.out hh1 hh2 hl)
      generalize L.getD h Ent.z = X at *
      have hck := cmpK_lt X.k k
      have hcb := cmpK_bd X.k k
      have HCM := Lib.hid (fun w => cmpKey_any X k w)
      generalize cmpK X.k k = c at *
      clear hh
      by_cases hc : c < 0
      · have H1 := Lib.hid (HUP.out (hck.1 hc))
        obtain rfl : c = -1 := by omega
        clear hck hcb hc
        go_wp2_with (go_at_call 156; refine (HCM.out _).mono ?_; rintro e w2 ⟨rfl, hb2⟩; have B2 := Lib.hid (bgo HB.out hb2); clear hb2)
        exact ⟨⟨h + 1, q, by go_num, rfl, H1, B2⟩, by simp [intOf]; omega⟩
      · have H1 := Lib.hid (HDN.out (by cases hx : lessK X.k k with | false => rfl | true => exact absurd (hck.2 hx) hc))
        have hc2 : c = 0 ∨ c = 1 := by omega
        clear hck hcb hc
        rcases hc2 with rfl | rfl
        all_goals
          go_wp2_with (go_at_call 156; refine (HCM.out _).mono ?_; rintro e w2 ⟨rfl, hb2⟩; have B2 := Lib.hid (bgo HB.out hb2); clear hb2)
          exact ⟨⟨p, h, rfl, by go_num, H1, B2⟩, by simp [intOf]; omega⟩
    · obtain rfl : p = q := by omega
      obtain ⟨k1, k2⟩ := HC.out.has HA.out
      have hnl : ¬ (p : Int) < (p : Int) := by omega
      by_cases hl : p < L.length
      · have hl2 : (p : Int) < (L.length : Int) := by omega
        have k3 := k1 hl
        obtain ⟨-, a1, cap1, he1, -, -, hc1⟩ := HR.out.below HB.out
        simp only [Value.slice.injEq, true_and] at he1
        obtain ⟨rfl, rfl⟩ := he1
        obtain ⟨b, off, rfl, hb, hcell⟩ := hc1 (by omega)
        obtain ⟨c0, c1, c2⟩ := hcell p hl
        clear hcell hc1 hb k1 k2
        generalize hX : L.getD p Ent.z = X at *
        have HX := Lib.hid hX
        clear hX
        have hck := cmpK_eq X.k k
        have hcb := cmpK_bd X.k k
        have HCM := Lib.hid (fun w => cmpKey_any X k w)
        generalize cmpK X.k k = c at *
        cases hs : sameK X.k k with
        | true =>
          obtain rfl : c = 0 := hck.2 ((sameK_iff _ _).1 hs)
          have HT := Lib.hid (k3.trans hs)
          have HS := Lib.hid hs
          clear hck hcb hs k3
          go_wp2_with (go_at_call 156; refine (HCM.out _).mono ?_; rintro e w2 ⟨rfl, hb2⟩; have B2 := Lib.hid (bgo HB.out hb2); clear hb2)
          go_ret2
          exact fin_of HT.out (fun _ => ⟨hl, by rw [HX.out]; exact HS.out⟩) B2.out
        | false =>
          have hc0 : c ≠ 0 := fun e => by rw [(sameK_iff _ _).2 (hck.1 e)] at hs; cases hs
          have hc2 : c = -1 ∨ c = 1 := by omega
          have HT := Lib.hid (k3.trans hs)
          clear hck hcb hs hc0 k3
          rcases hc2 with rfl | rfl
          all_goals
            go_wp2_with (go_at_call 156; refine (HCM.out _).mono ?_; rintro e w2 ⟨rfl, hb2⟩; have B2 := Lib.hid (bgo HB.out hb2); clear hb2)
            go_ret2
            exact fin_of HT.out (fun h => by cases h) B2.out
      · have hl2 : ¬ (p : Int) < (L.length : Int) := by omega
        have HT := Lib.hid (k2 hl)
        clear k1 k2
        go_wp2
        go_ret2
        exact fin_of HT.out (fun h => by cases h) HB.out
/-- An entry as a variable of the call: block g. -/
def EnS (g : Nat) (k : ByteArray) (c e : Int) (w : World) : Prop :=
  (w.cell? ⟨g, 0, none⟩ = some (.string k) ∧ w.cell? ⟨g, 1, none⟩ = some (.int .i64 c) ∧ w.cell? ⟨g, 2, none⟩ = some (.int .i64 e)) ∧ w.frozen? ⟨g, 0, none⟩ = false ∧ w.frozen? ⟨g, 1, none⟩ = false ∧ w.frozen? ⟨g, 2, none⟩ = false
theorem EnS.keep {g : Nat} {k : ByteArray} {c e : Int} {w w' : World} (h : EnS g k c e w) (hb : w'.heap[g]? = w.heap[g]?) : EnS g k c e w' := by
  obtain ⟨⟨h0, h1, h2⟩, f0, f1, f2⟩ := h
  have hc : ∀ o, w'.cell? ⟨g, o, none⟩ = w.cell? ⟨g, o, none⟩ := fun o => World.cell?_of_block (w := w) (a := ⟨g, o, none⟩) hb
  have hf : ∀ o, w'.frozen? ⟨g, o, none⟩ = w.frozen? ⟨g, o, none⟩ := fun o => World.frozen?_of_block (w := w) (a := ⟨g, o, none⟩) hb
  exact ⟨⟨(hc _).trans h0, (hc _).trans h1, (hc _).trans h2⟩, (hf _).trans f0, (hf _).trans f1, (hf _).trans f2⟩
theorem EnS.new (k : ByteArray) (c e : Int) (t : TypeId) (w : World) : EnS w.heap.size k c e (w.alloc (.cells #[.string k, .int .i64 c, .int .i64 e] t)) := ⟨⟨by go_simp, by go_simp, by go_simp⟩, by go_simp, by go_simp, by go_simp⟩
theorem EnS.second (k : ByteArray) (c e : Int) (o : Obj) (t : TypeId) (w : World) : EnS (w.heap.size + 1) k c e ((w.alloc o).alloc (.cells #[.string k, .int .i64 c, .int .i64 e] t)) := by
  have h := EnS.new k c e t (w.alloc o)
  simpa using h
theorem EnS.lt {g : Nat} {k : ByteArray} {c e : Int} {w : World} (h : EnS g k c e w) : g < w.heap.size := by
  have h0 := h.1.1
  unfold World.cell? at h0
  cases hb : w.heap[g]? with
  | none => simp [hb] at h0
  | some o => exact (Array.getElem?_eq_some_iff.1 hb).1
theorem EnS.go {g : Nat} {k : ByteArray} {c e : Int} {w w' : World} (h : EnS g k c e w) (hb : Below w.heap.size w w') : EnS g k c e w' := h.keep (hb.block _ h.lt)
theorem EnS.set {g : Nat} {k : ByteArray} {c e : Int} {w : World} (h : EnS g k c e w) (k' : ByteArray) (c' e' : Int) : EnS g k' c' e' (((w.setCell ⟨g, 0, none⟩ (.string k')).setCell ⟨g, 1, none⟩ (.int .i64 c')).setCell ⟨g, 2, none⟩ (.int .i64 e')) := by
  obtain ⟨⟨h0, h1, h2⟩, f0, f1, f2⟩ := h
  exact ⟨⟨by go_simp, by go_simp, by go_simp⟩, by go_simp, by go_simp, by go_simp⟩
set_option maxRecDepth 100000 in
set_option maxHeartbeats 2000000 in
theorem pfindQ_any (t : FQ) (k : ByteArray) (v : Value) (w : World) (hv : RdQ t v w) (ht : ValQ t.S t.T t.K t.L) (hk : keyB (byt k) = true) (hks : k.size ≤ maxLen) :
    Calls Tryz.prog 113 #[v, .string k] w fun e w' => e = .returned (.tuple #[.agg #[.string k, .int .i64 (cntK_2 t.L k), .int .i64 t.K], .bool (hasK t.L k), .int .i64 0]) ∧ Below w.heap.size w w' := by
  obtain ⟨S, T, K, L, s⟩ := t
  obtain ⟨aA, nA, cA, rfl, hr⟩ := hv
  dsimp only at hr ht ⊢
  obtain ⟨a', cap', he⟩ := hr.shape
  simp only [Value.slice.injEq] at he
  obtain ⟨rfl, rfl, rfl⟩ := he
  have HR := Lib.hid hr
  have hsm := ht.small
  have HV := Lib.hid (fun (w' : World) (hb : Below w.heap.size w w') => pvalQ_any S T K L s aA L.length cA w' (hr.below hb) (by omega))
  rw [valQ_of ht] at HV
  have HKY := Lib.hid (fun w => isKey_any k w hks)
  rw [hk] at HKY
  have HBS := Lib.hid (fun (w' : World) (hb : Below w.heap.size w w') => bsearch_any L k (.slice aA L.length cA) w' (hr.below hb) ht.asc (by omega))
  have M0 := Lib.hid (FqS.new S T K (.slice aA L.length cA) s 43 w)
  have HCN := Lib.hid (fun (p : Nat) (h1 : p < L.length) (h2 : sameK (L.getD p Ent.z).k k = true) => cntK_at ht.asc h1 h2)
  have hy := hr.1
  have HN0 : Hid (hasK L k = false → cntK_2 L k = 0) := Lib.hid (fun h => cntK_none (fun y hy => by
    cases hx : sameK y.k k with
    | false => rfl
    | true =>
      have : hasK L k = true := by unfold hasK; rw [List.any_eq_true]; exact ⟨y, hy, hx⟩
      rw [h] at this; cases this))
  clear hr ht hk hks
  generalize cntK_2 L k = n at *
  have ME := Lib.hid (b2 (a := w) (.cells #[.int .i64 S, .int .i64 T, .int .i64 K, .slice aA L.length cA, .bool s] 43) (.cells #[.string ⟨#[]⟩, .int .i64 0, .int .i64 0] 64))
  go_enter Tryz.func113, Tryz.ntmps113
  go_upto_region 6 with (first
    | (go_at_call 109; refine (HV.out _ ME.out).mono ?_; rintro e w2 ⟨rfl, hb2⟩; have B2 := Lib.hid (bgo ME.out hb2); have M2 := Lib.hid ((M0.out.go (b1 _)).go hb2); have E2 := Lib.hid ((EnS.second ⟨#[]⟩ 0 0 _ 64 w).go hb2); clear hb2)
    | (go_at_call 26; refine (HKY.out _).mono ?_; rintro e w' ⟨rfl, rfl⟩))
  obtain ⟨⟨m0, m1, m2, m3, m4⟩, -⟩ := M2.out
  obtain ⟨⟨x0, x1, x2⟩, y0, y1, y2⟩ := E2.out
  go_upto_region 7 with (fail)
  have hgn : ¬ (w.heap.size = w.heap.size + 1) := by omega
  have E3 := Lib.hid (E2.out.set k 0 K)
  have B3 := Lib.hid (bset (bset (bset B2.out (w.heap.size + 1) 0 (.string k) (Nat.le_succ _)) (w.heap.size + 1) 1 (.int .i64 0) (Nat.le_succ _)) (w.heap.size + 1) 2 (.int .i64 K) (Nat.le_succ _))
  have M3 := Lib.hid (M2.out.keep (w' := ((w2.setCell ⟨w.heap.size + 1, 0, none⟩ (.string k)).setCell ⟨w.heap.size + 1, 1, none⟩ (.int .i64 0)).setCell ⟨w.heap.size + 1, 2, none⟩ (.int .i64 K)) ((((One.set (w.heap.size + 1) 0 w2 (.string k)).trans (One.set (w.heap.size + 1) 1 _ (.int .i64 0))).trans (One.set (w.heap.size + 1) 2 _ (.int .i64 K))).2.2 w.heap.size M2.out.lt hgn))
  clear m0 m1 m2 m3 m4 x0 x1 x2 y0 y1 y2 M2 E2 B2 M0 ME HV HKY
  generalize ((w2.setCell ⟨w.heap.size + 1, 0, none⟩ (.string k)).setCell ⟨w.heap.size + 1, 1, none⟩ (.int .i64 0)).setCell ⟨w.heap.size + 1, 2, none⟩ (.int .i64 K) = w3 at *
  obtain ⟨⟨m0, m1, m2, m3, m4⟩, -⟩ := M3.out
  have HLS : Hid (∀ (w' : World), Below w.heap.size w w' → RdE L (.slice aA L.length cA) w') := Lib.hid (fun w' hb => HR.out.below hb)
  cases hH : hasK L k with
  | true =>
    have HH := Lib.hid hH
    clear hH
    go_upto_region 8 with (go_at_call 155; refine (HBS.out _ B3.out).mono ?_; rintro e w4 ⟨p, rfl, hp, hb4⟩; rw [HH.out] at hp ⊢; have HP := Lib.hid (hp rfl); have B4 := Lib.hid (bgo B3.out hb4); have M4 := Lib.hid (M3.out.go hb4); have E4 := Lib.hid (E3.out.go hb4); clear m0 m1 m2 m3 m4 hb4 hp; obtain ⟨⟨m0, m1, m2, m3, m4⟩, -⟩ := M4.out; obtain ⟨⟨x0, x1, x2⟩, y0, y1, y2⟩ := E4.out)
    obtain ⟨hpl, hps⟩ := HP.out
    obtain ⟨-, a1, cap1, he1, -, -, hc1⟩ := HLS.out _ B4.out
    simp only [Value.slice.injEq, true_and] at he1
    obtain ⟨rfl, rfl⟩ := he1
    obtain ⟨b, off, rfl, hb, hcell⟩ := hc1 (by omega)
    obtain ⟨c0, c1, c2⟩ := hcell p hpl
    have hCN := Lib.hid (HCN.out p hpl hps)
    have hp0 : (0 : Int) ≤ (p : Int) := by omega
    have hp1 : (p : Int) < (L.length : Int) := by omega
    have HB9 := Lib.hid (bset (bset (bset (bset B4.out (w.heap.size + 1) 1 (.int .i64 (L.getD p Ent.z).c) (Nat.le_succ _)) (w.heap.size + 1) 0 (.string k) (Nat.le_succ _)) (w.heap.size + 1) 1 (.int .i64 (L.getD p Ent.z).c) (Nat.le_succ _)) (w.heap.size + 1) 2 (.int .i64 K) (Nat.le_succ _))
    clear hcell hc1 hb HP hps
    generalize (L.getD p Ent.z).c = c at *
    go_wp2
    ((try simp only [Exit.inBlock, Exit.then]); refine bodyPost_ret (v := .tuple #[.agg #[.string k, .int .i64 c, .int .i64 K], .bool true, .int .i64 0]) (by simp [results, Tryz.results113, go_sem, *]) rfl ?_)
    exact ⟨by rw [HH.out, hCN.out], HB9.out⟩
  | false =>
    have HH := Lib.hid hH
    have hC0 := Lib.hid (HN0.out hH)
    clear hH
    go_upto_region 8 with (go_at_call 155; refine (HBS.out _ B3.out).mono ?_; rintro e w4 ⟨p, rfl, hp, hb4⟩; rw [HH.out]; have B4 := Lib.hid (bgo B3.out hb4); have M4 := Lib.hid (M3.out.go hb4); have E4 := Lib.hid (E3.out.go hb4); clear m0 m1 m2 m3 m4 hb4 hp; obtain ⟨⟨m0, m1, m2, m3, m4⟩, -⟩ := M4.out; obtain ⟨⟨x0, x1, x2⟩, y0, y1, y2⟩ := E4.out)
    have HB9 := Lib.hid (bset (bset (bset B4.out (w.heap.size + 1) 0 (.string k) (Nat.le_succ _)) (w.heap.size + 1) 1 (.int .i64 0) (Nat.le_succ _)) (w.heap.size + 1) 2 (.int .i64 K) (Nat.le_succ _))
    go_wp2
    ((try simp only [Exit.inBlock, Exit.then]); refine bodyPost_ret (v := .tuple #[.agg #[.string k, .int .i64 0, .int .i64 K], .bool false, .int .i64 0]) (by simp [results, Tryz.results113, go_sem, *]) rfl ?_)
    exact ⟨by rw [HH.out, hC0.out], HB9.out⟩
end Go.Proofs.YtjibbnknliamkaaGreatDoor
