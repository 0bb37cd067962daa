/- FqV, SkQ, RkZ: in one text. -/
import Derived.Test.YtjibbnknliamkaaGreatDoorPg22
import Derived.Test.YtjibbnknliamkaaGreatDoorPg08
import Derived.Test.YtjibbnknliamkaaGreatDoorPg04
import Derived.Test.YtjibbnknliamkaaGreatDoorPg03
import Derived.Test.YtjibbnknliamkaaGreatDoorPg07
import Derived.Test.YtjibbnknliamkaaGreatDoorPg00
import Derived.Test.YtjibbnknliamkaaGreatDoorPg01
import Derived.Test.YtjibbnknliamkaaGreatDoorPg06
import Derived.Test.YtjibbnknliamkaaGreatDoorPg17
import Derived.Test.YtjibbnknliamkaaGreatDoorPg10
import Derived.Test.YtjibbnknliamkaaGreatDoorProg
import Derived.Test.YtjibbnknliamkaaGreatDoorPg12
import Derived.Test.YtjibbnknliamkaaGreatDoorPg23
import Derived.Test.YtjibbnknliamkaaGreatDoorPg02
import Derived.Deep.RegionHeld3
import Derived.Deep.MidRow
import Derived.Shelf.Strconv.Itoa0
import Derived.Deep.RegionLaw
import Derived.BigQuiet
import Derived.Shelf.Abstract
namespace Go.Proofs.YtjibbnknliamkaaGreatDoor
open Go.RowKit
set_option linter.unusedVariables false
set_option linter.unusedSimpArgs false
/-- Entries of which nothing is wrong. -/
def GdE (L : List Ent) : Prop := ∀ x ∈ L, entQ x = 0
theorem ValQ.gd {S T K : Int} {L : List Ent} (h : ValQ S T K L) : GdE L := fun x hx => by
  obtain ⟨i, hi, he⟩ := List.mem_iff_getElem.1 hx
  have h1 := h.ent i hi
  have e : L.getD i Ent.z = x := by simp [List.getD, hi, he]
  rw [e] at h1
  exact h1
theorem tS_pos {a b : Int} (ha : 1 ≤ a) : 1 ≤ tS a b := by unfold tS satN nat0; split <;> omega
theorem unL_gd : ∀ {L M : List Ent}, GdE L → GdE M → GdE (unL L M)
  | [], M, _, hm => by rw [unL_nil_left]; exact hm
  | x :: L, [], hl, _ => by rw [unL_nil_right]; exact hl
  | x :: L, y :: M, hl, hm => by
    have hl' : GdE L := fun z hz => hl z (by simp [hz])
    have hm' : GdE M := fun z hz => hm z (by simp [hz])
    rw [unL_cons]
    split
    · intro z hz
      rcases List.mem_cons.1 hz with rfl | hz
      · exact hl z (by simp)
      · exact unL_gd hl' hm z hz
    · split
      · intro z hz
        rcases List.mem_cons.1 hz with rfl | hz
        · exact hm z (by simp)
        · exact unL_gd hl hm' z hz
      · intro z hz
        rcases List.mem_cons.1 hz with rfl | hz
        · have h1 := entQ_zero (hl x (by simp))
          exact entQ_of h1.1 (tS_pos h1.2.1) (tS_bd _ _).2 rfl
        · exact unL_gd hl' hm' z hz
termination_by L M => L.length + M.length
theorem lowL_gd {L : List Ent} {d : Int} (h : GdE L) (h0 : 0 ≤ d) : GdE (lowL_2 L d) := fun z hz => by
  obtain ⟨x, hx, hd, rfl⟩ := lowL_mem hz
  have h1 := entQ_zero (h x hx)
  exact entQ_of h1.1 (by dsimp only; omega) (by dsimp only; omega) rfl
theorem ValQ.mk' {S T K : Int} {L : List Ent} (s0 : 1 ≤ S) (s1 : S ≤ 32) (t0 : 0 ≤ T) (t1 : T ≤ 1099511627776) (k0 : 0 ≤ K) (k1 : K ≤ 1099511627776) (hl : (L.length : Int) ≤ S) (hg : GdE L) (ha : AscK L) : ValQ S T K L := by
  refine ⟨s0, s1, t0, t1, k0, k1, hl, fun i hi => ?_, fun i hi => ?_⟩
  · rw [show L.getD i Ent.z = L[i] by simp [List.getD, hi]]
    exact hg _ (List.getElem_mem hi)
  · have h0 : i < L.length := by omega
    rw [show L.getD i Ent.z = L[i] by simp [List.getD, h0], show L.getD (i + 1) Ent.z = L[i + 1] by simp [List.getD, hi]]
    exact List.pairwise_iff_getElem.1 ha i (i + 1) h0 hi (by omega)
theorem lowL_count (L : List Ent) (d : Int) : (lowL_2 L d).length = (cnts L).countP (fun c => decide (d < c)) := by
  induction L with
  | nil => rfl
  | cons x L ih =>
    rw [lowL_cons, List.length_append, ih]
    show _ = List.countP _ (x.c :: cnts L)
    rw [List.countP_cons]
    by_cases h : d < x.c
    · rw [if_pos h, if_pos (by simpa using h)]; simp; omega
    · rw [if_neg h, if_neg (by simpa using h)]; simp
/-- In an ascending list at most as many exceed an element as stand behind it. -/
theorem up_count {M : List Int} (h : UpI M) {i : Nat} (hi : i < M.length) : M.countP (fun c => decide (M.getD i 0 < c)) ≤ M.length - 1 - i := by
  have e : M = M.take (i + 1) ++ M.drop (i + 1) := (List.take_append_drop _ _).symm
  have hd : M.getD i 0 = M[i] := by simp [List.getD, hi]
  have h1 : (M.take (i + 1)).countP (fun c => decide (M.getD i 0 < c)) = 0 := by
    rw [List.countP_eq_zero]
    intro c hc
    obtain ⟨j, hj, he⟩ := List.mem_iff_getElem.1 hc
    rw [List.length_take] at hj
    have hj2 : j ≤ i := by omega
    have hcv : c = M[j]'(by omega) := by rw [← he]; simp
    simp only [decide_eq_true_eq, hd, hcv]
    by_cases hji : j = i
    · subst hji; omega
    · have := List.pairwise_iff_getElem.1 h j i (by omega) hi (by omega)
      omega
  have h2 := List.countP_le_length (p := fun c => decide (M.getD i 0 < c)) (l := M.drop (i + 1))
  have h3 : M.countP (fun c => decide (M.getD i 0 < c)) = (M.take (i + 1)).countP (fun c => decide (M.getD i 0 < c)) + (M.drop (i + 1)).countP (fun c => decide (M.getD i 0 < c)) := by
    rw [← List.countP_append, List.take_append_drop]
  rw [List.length_drop] at h2
  omega
theorem up_countGe {M : List Int} (h : UpI M) {i : Nat} (hi : i < M.length) : M.length - i ≤ M.countP (fun c => decide (M.getD i 0 ≤ c)) := by
  have hd : M.getD i 0 = M[i] := by simp [List.getD, hi]
  have h1 : (M.drop i).countP (fun c => decide (M.getD i 0 ≤ c)) = (M.drop i).length := by
    rw [List.countP_eq_length]
    intro c hc
    obtain ⟨j, hj, he⟩ := List.mem_iff_getElem.1 hc
    rw [List.length_drop] at hj
    have hcv : c = M[i + j]'(by omega) := by rw [← he]; simp
    simp only [decide_eq_true_eq, hd, hcv]
    by_cases hj0 : j = 0
    · subst hj0; exact Int.le_refl _
    · exact List.pairwise_iff_getElem.1 h i (i + j) hi (by omega) (by omega)
  have h3 : M.countP (fun c => decide (M.getD i 0 ≤ c)) = (M.take i).countP (fun c => decide (M.getD i 0 ≤ c)) + (M.drop i).countP (fun c => decide (M.getD i 0 ≤ c)) := by
    rw [← List.countP_append, List.take_append_drop]
  rw [h3, h1, List.length_drop]
  omega
theorem srpl_room (L : List Ent) {S : Int} (h0 : 0 ≤ S) : ((lowL_2 L (srpl L S)).length : Int) ≤ S := by
  by_cases h : (L.length : Int) ≤ S
  · have := lowL_len L (srpl L S)
    omega
  · have hl : (sortI (cnts L)).length = L.length := by rw [sortI_len]; simp [cnts]
    have e : srpl L S = (sortI (cnts L)).getD (L.length - 1 - S.toNat) 0 := by unfold srpl; rw [if_neg h]
    rw [lowL_count, e, ← (sortI_perm (cnts L)).countP_eq]
    have := up_count (sortI_sorted (cnts L)) (i := L.length - 1 - S.toNat) (by rw [hl]; omega)
    rw [hl] at this
    omega
theorem srpl_many (L : List Ent) {S : Int} (h0 : 0 ≤ S) (h : S < L.length) : S + 1 ≤ (((cnts L).countP (fun c => decide (srpl L S ≤ c)) : Nat) : Int) := by
  have hl : (sortI (cnts L)).length = L.length := by rw [sortI_len]; simp [cnts]
  have e : srpl L S = (sortI (cnts L)).getD (L.length - 1 - S.toNat) 0 := by unfold srpl; rw [if_neg (by omega)]
  rw [e, ← (sortI_perm (cnts L)).countP_eq]
  have := up_countGe (sortI_sorted (cnts L)) (i := L.length - 1 - S.toNat) (by rw [hl]; omega)
  rw [hl] at this
  omega
theorem srpl_zero_le {L : List Ent} {S : Int} (h : GdE L) : 0 ≤ srpl L S := by
  by_cases hs : (L.length : Int) ≤ S
  · rw [srpl_zero hs]; exact Int.le_refl _
  · unfold srpl
    rw [if_neg hs]
    by_cases hi : L.length - 1 - S.toNat < (sortI (cnts L)).length
    · have hm : (sortI (cnts L)).getD (L.length - 1 - S.toNat) 0 ∈ sortI (cnts L) := by
        rw [List.getD_eq_getElem?_getD, List.getElem?_eq_getElem hi]
        exact List.getElem_mem hi
      obtain ⟨x, hx, he⟩ := List.mem_map.1 ((sortI_perm (cnts L)).mem_iff.1 hm)
      have := (entQ_zero (h x hx)).2.1
      rw [← he]
      omega
    · rw [List.getD_eq_getElem?_getD, List.getElem?_eq_none (by omega)]
      exact Int.le_refl _
theorem ValQ.sum {S T K T' K' : Int} {L M : List Ent} {s s' : Bool} (h : ValQ S T K L) (h' : ValQ S T' K' M) :
    ValQ (sumQ ⟨S, T, K, L, s⟩ ⟨S, T', K', M, s'⟩).S (sumQ ⟨S, T, K, L, s⟩ ⟨S, T', K', M, s'⟩).T (sumQ ⟨S, T, K, L, s⟩ ⟨S, T', K', M, s'⟩).K (sumQ ⟨S, T, K, L, s⟩ ⟨S, T', K', M, s'⟩).L := by
  have hg := unL_gd h.gd h'.gd
  exact ValQ.mk' h.s0 h.s1 (tS_bd _ _).1 (tS_bd _ _).2 (tS_bd _ _).1 (tS_bd _ _).2 (srpl_room _ (show (0 : Int) ≤ S by have := h.s0; omega)) (lowL_gd hg (srpl_zero_le hg)) (lowL_asc (unL_asc h.asc h'.asc) _)
theorem ValQ.one {S : Int} {k : ByteArray} {x : Int} (s0 : 1 ≤ S) (s1 : S ≤ 32) (hi : itemE (byt k) x = 0) : ValQ S x 0 [⟨k, x, 0⟩] := by
  have h : keyB (byt k) = true ∧ 1 ≤ x ∧ x ≤ 4294967295 := by
    unfold itemE at hi
    cases hk : keyB (byt k) with
    | false => rw [hk, if_pos rfl] at hi; cases hi
    | true =>
      rw [hk, if_neg (by simp)] at hi
      by_cases hx : x < 1 ∨ 4294967295 < x
      · rw [if_pos hx] at hi; cases hi
      · exact ⟨rfl, by omega, by omega⟩
  refine ValQ.mk' s0 s1 (by omega) (by omega) (by omega) (by omega) (by simp; omega) (fun z hz => ?_) (AscK.one _)
  rw [List.mem_singleton] at hz
  subst hz
  exact entQ_of h.1 h.2.1 (by dsimp only; omega) rfl
/-- A summary that is valid, or that of an error. -/
def OkQ (c : FQ) : Prop := ValQ c.S c.T c.K c.L ∨ c = FQ.none
theorem OkQ.wf {c : FQ} (h : OkQ c) : WfQ c := by
  rcases h with h | rfl
  · exact ⟨⟨by have := h.s0; omega, by have := h.s1; omega⟩, ⟨by have := h.t0; omega, by have := h.t1; omega⟩, by have := h.k0; omega, by have := h.k1; omega⟩
  · exact ⟨by decide, by decide, by decide⟩
theorem OkQ.len {c : FQ} (h : OkQ c) : c.L.length ≤ 32 := by
  rcases h with h | rfl
  · have := h.len; have := h.s1; omega
  · decide
theorem OkQ.ins {c : FQ} (h : OkQ c) (k : ByteArray) (x : Int) : OkQ (insQ c k x) ∧ (insQ c k x).S ≤ c.S := by
  unfold insQ
  by_cases hE : insQE c k x = 0
  · rw [if_neg (by simpa using hE)]
    obtain ⟨S, T, K, L, s⟩ := c
    unfold insQE at hE
    dsimp only at hE
    by_cases hv : valQ S T K L = 0
    · rw [if_neg (by simpa using hv)] at hE
      have hv' := valQ_ok hv
      exact ⟨.inl (hv'.sum (ValQ.one hv'.s0 hv'.s1 hE)), Int.le_refl _⟩
    · rw [if_pos hv] at hE
      exact absurd hE hv
  · rw [if_pos hE]
    refine ⟨.inr rfl, ?_⟩
    rcases h with h | rfl
    · have := h.s0; show (0 : Int) ≤ c.S; omega
    · exact Int.le_refl _
theorem OkQ.new (S : Int) : OkQ (newQ S) := by
  unfold newQ
  split
  · exact .inr rfl
  · have hv : ValQ S 0 0 [] := ValQ.mk' (by omega) (by omega) (by decide) (by decide) (by decide) (by decide) (by simp; omega) (fun z hz => by cases hz) List.Pairwise.nil
    exact .inl hv
end Go.Proofs.YtjibbnknliamkaaGreatDoor
namespace Go.Proofs.YtjibbnknliamkaaGreatDoor
open Go.RowKit
set_option linter.unusedVariables false
set_option linter.unusedSimpArgs false
set_option maxRecDepth 100000 in
theorem sameQ_any (t : FQ) (v u : Value) (w : World) (hv : RdQ t v w) (hu : RdQ t u w) (hn : t.L.length ≤ 549755813888) :
    Calls Tryz.prog 125 #[v, u] w fun e w' => e = .returned (.bool true) ∧ Below w.heap.size w w' := by
  obtain ⟨S, T, K, L, s⟩ := t
  obtain ⟨a, n, cap, rfl, hR⟩ := hv
  obtain ⟨a2, n2, cap2, rfl, hR2⟩ := hu
  dsimp only at hR hR2 hn ⊢
  have hs := Lib.hid (sameE_any L (.slice a n cap) (.slice a2 n2 cap2) ((w.alloc (.cells #[.int .i64 S, .int .i64 T, .int .i64 K, .slice a n cap, .bool s] 43)).alloc (.cells #[.int .i64 S, .int .i64 T, .int .i64 K, .slice a2 n2 cap2, .bool s] 43)) (hR.below (b2 _ _)) (hR2.below (b2 _ _)) hn)
  clear hR hR2
  go_enter Tryz.func125, Tryz.ntmps125
  go_wp2_with (go_at_call 20; refine hs.out.mono ?_; rintro e w2 ⟨rfl, hb2⟩; have B2 := Lib.hid (bgo (b2 _ _) hb2); clear hb2)
  go_ret
  exact ⟨rfl, B2.out⟩
theorem OwnE.lone {B : Nat} {x : Ent} {a : Option Addr} {n c : Nat} {w : World} (h : OwnE B [x] (.slice a n c) w) : ∃ g, a = some ⟨g, 0, none⟩ ∧ n = 1 ∧ At3 x g 0 w ∧ g < w.heap.size := by
  obtain ⟨g, rfl, -, hg, hn, -, -⟩ := h.block (by simp)
  obtain rfl : n = 1 := hn
  have := h.cellsAt (j := 0) (by simp)
  exact ⟨g, rfl, rfl, this, hg⟩
end Go.Proofs.YtjibbnknliamkaaGreatDoor
namespace Go.Proofs.YtjibbnknliamkaaGreatDoor
open Go.RowKit
set_option linter.unusedVariables false
set_option linter.unusedSimpArgs false
set_option maxRecDepth 100000 in
set_option maxHeartbeats 2000000 in
theorem sameR_any (t : RK) (v u : Value) (w : World) (hv : RdR t v w) (hu : RdR t u w) (hok : LOk t.L) :
    Calls Tryz.prog 126 #[v, u] w fun e w' => e = .returned (.bool true) ∧ Below w.heap.size w w' := by
  obtain ⟨S, T, K, L, s⟩ := t
  obtain ⟨aA, cA, rfl, hr⟩ := hv.run
  obtain ⟨aB, cB, rfl, hr2⟩ := hu.run
  dsimp only at hr hr2 hok ⊢
  have HR := Lib.hid hr
  have HU := Lib.hid hr2
  have HO := Lib.hid hok
  have hL := hok.1
  clear hr hr2 hv hu hok
  go_enter Tryz.func126, Tryz.ntmps126
  go_wp2
  obtain ⟨W0, hW0⟩ : ∃ W0, (w.alloc (.cells #[.int .i64 S, .int .i64 T, .int .i64 K, .slice aA L.length cA, .bool s] 46)).alloc (.cells #[.int .i64 S, .int .i64 T, .int .i64 K, .slice aB L.length cB, .bool s] 46) = W0 := ⟨_, rfl⟩
  have HA : Hid (W0.cell? ⟨w.heap.size, 3, none⟩ = some (.slice aA L.length cA)) := Lib.hid (by rw [← hW0]; exact ((RsS.new S T K (.slice aA L.length cA) s 46 w).go (b1 _)).1.2.2.2.1)
  have HB : Hid (W0.cell? ⟨w.heap.size + 1, 3, none⟩ = some (.slice aB L.length cB)) := Lib.hid (by
    have h := RsS.new S T K (.slice aB L.length cB) s 46 (w.alloc (.cells #[.int .i64 S, .int .i64 T, .int .i64 K, .slice aA L.length cA, .bool s] 46))
    rw [hW0, show (w.alloc (.cells #[.int .i64 S, .int .i64 T, .int .i64 K, .slice aA L.length cA, .bool s] 46)).heap.size = w.heap.size + 1 by simp] at h
    exact h.1.2.2.2.1)
  have HB0 : Hid (Below w.heap.size w W0) := Lib.hid (by rw [← hW0]; exact b2 _ _)
  have HS0 : Hid (w.heap.size + 1 < W0.heap.size) := Lib.hid (by rw [← hW0]; simp)
  rw [hW0]
  clear hW0
  go_loopw [5] (fun i wr => ∃ j : Nat, j ≤ L.length ∧ i = .int .i64 (j : Int) ∧ Hid (Below W0.heap.size W0 wr)) (fun i _ => L.length - (intOf i).toNat)
  case atStart => exact ⟨0, by omega, rfl, Lib.hid (Below.refl _ _)⟩
  case round =>
    obtain ⟨j, hj, rfl, HI⟩ := hrel
    have hs0 := HS0.out
    have ha := ((bcell HI.out).1 w.heap.size 3 (by omega)).trans HA.out
    have hb := ((bcell HI.out).1 (w.heap.size + 1) 3 (by omega)).trans HB.out
    by_cases hlt : j < L.length
    · have hlt2 : (j : Int) < (L.length : Int) := by omega
      have HBW := Lib.hid (bgo HB0.out HI.out)
      obtain ⟨b1', o1, u1, m1, k1, rfl, -, hb1, hc1, hr1, hm1⟩ := (HR.out.below HBW.out).at_ hlt
      obtain ⟨b2', o2, u2, m2, k2, rfl, -, hb2, hc2, hr2, hm2⟩ := (HU.out.below HBW.out).at_ hlt
      have hl := (HO.out.at_ j).1
      subst hm1
      subst hm2
      generalize L.getD j [] = l at *
      have HR1 := Lib.hid hr1
      have HR2 := Lib.hid hr2
      clear hr1 hr2
      go_wp2
      go_quiet (fail)
      go_wp2
      have HC := Lib.hid (And.intro ha (And.intro hb (And.intro hc1 hc2)))
      have HLT : Hid ((w.heap.size < wr.heap.size ∧ w.heap.size + 1 < wr.heap.size) ∧ b1' < wr.heap.size ∧ b2' < wr.heap.size) := Lib.hid ⟨⟨by have := HI.out.size; omega, by have := HI.out.size; omega⟩, hb1, hb2⟩
      clear ha hb hc1 hc2
      go_loopw [6] (fun i wr2 => ∃ k : Nat, k ≤ l.length ∧ i = .int .i64 (k : Int) ∧ Hid (Below wr.heap.size wr wr2)) (fun i _ => l.length - (intOf i).toNat)
      case atStart => exact ⟨0, by omega, rfl, Lib.hid (below_drewN (Below.refl _ _) _)⟩
      case round =>
        obtain ⟨k, hk, rfl, HI2⟩ := hrel
        have ha := ((bcell HI2.out).1 w.heap.size 3 HLT.out.1.1).trans HC.out.1
        have hb := ((bcell HI2.out).1 (w.heap.size + 1) 3 HLT.out.1.2).trans HC.out.2.1
        have hc1 := ((bcell HI2.out).1 b1' (o1 + j) HLT.out.2.1).trans HC.out.2.2.1
        have hc2 := ((bcell HI2.out).1 b2' (o2 + j) HLT.out.2.2).trans HC.out.2.2.2
        by_cases hlk : k < l.length
        · have hlk2 : (k : Int) < (l.length : Int) := by omega
          obtain ⟨b3, o3, rfl, -, hd1⟩ := (HR1.out.below HI2.out).cell hlk
          obtain ⟨b4, o4, rfl, -, hd2⟩ := (HR2.out.below HI2.out).cell hlk
          generalize l.getD k ByteArray.empty = x at *
          go_wp2
          go_quiet (fail)
          go_wp2
          exact ⟨⟨k + 1, by omega, by go_num, Lib.hid (below_drewN HI2.out _)⟩, by simp [intOf]; omega⟩
        · obtain rfl : k = l.length := by omega
          go_wp2
          exact ⟨⟨j + 1, by omega, by go_num, Lib.hid (bgo HI.out HI2.out)⟩, by simp [intOf]; omega⟩
    · obtain rfl : j = L.length := by omega
      go_wp2
      go_ret
      exact ⟨rfl, bgo HB0.out HI.out⟩
section
variable {B g : Nat} {c d : RK} {v u : Value} {w w' : World}
end
section
variable {W : World} {B g : Nat} {c d : RK} {v u : Value} {w w' : World}
end
section
variable {W : World} {B g k : Nat} {c d e : RK} {v u : Value} {w w' : World}
end
end Go.Proofs.YtjibbnknliamkaaGreatDoor
