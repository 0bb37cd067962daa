/- RVal, PIdx, RSrt, InsN, Same9, FqN, SpcA, OthI, KeyS, Base: in one text. -/
import Derived.Test.YtcndobdbjillpaaGreatDoorPk05
import Derived.Test.YtcndobdbjillpaaGreatDoorPk06
import Derived.Test.YtcndobdbjillpaaGreatDoorPk00
import Derived.Test.YtcndobdbjillpaaGreatDoorPk04
import Derived.Test.YtcndobdbjillpaaGreatDoorPk02
import Derived.Lib.Hide
import Derived.Lib.SliceRun
import Derived.Shelf.Abstract
import Derived.Deep.MidRow
namespace Go.Proofs.YtcndobdbjillpaaGreatDoor
open Go.RowKit
set_option linter.unusedVariables false
set_option linter.unusedSimpArgs false
theorem RdE.take {L : List Ent} {a : Option Addr} {n cap : Nat} {w : World} (h : RdE L (.slice a n cap) w) {i : Nat} (hi : i ≤ L.length) : RdE (L.take i) (.slice a i cap) w := by
  obtain ⟨hy, a', cap', he, h1, h2, h3⟩ := h
  simp only [Value.slice.injEq] at he
  obtain ⟨rfl, rfl, rfl⟩ := he
  have hl : (L.take i).length = i := by rw [List.length_take]; omega
  refine ⟨hy.take i, a, cap, by rw [hl], by rw [hl]; omega, h2, fun hp => ?_⟩
  rw [hl] at hp
  obtain ⟨b, off, rfl, hb, hc⟩ := h3 (by omega)
  refine ⟨b, off, rfl, hb, fun j hj => ?_⟩
  rw [hl] at hj
  have e : (L.take i).getD j Ent.z = L.getD j Ent.z := by simp [List.getD, List.getElem?_take, hj]
  rw [e]
  exact hc j (by omega)
theorem within_any (n l h : Int) (w : World) : Calls Tryz.prog 117 #[.int .i64 n, .int .i64 l, .int .i64 h] w fun e w' => e = .returned (.bool (decide (l ≤ n) && decide (n ≤ h))) ∧ w = w' := by
  go_enter Tryz.func117, Tryz.ntmps117
  go_wp2
  all_goals
    go_ret
    exact ⟨ret_bool (by first | rfl | (rw [Bool.eq_iff_iff]; simp [*] <;> omega)), rfl⟩
end Go.Proofs.YtcndobdbjillpaaGreatDoor
namespace Go.Proofs.YtcndobdbjillpaaGreatDoor
open Go.RowKit
set_option linter.unusedVariables false
set_option linter.unusedSimpArgs false
/-- A sum up to the greatest total, and whether it was cut off. -/
def tS (a b : Int) : Int := satN (nat0 a + nat0 b) 1099511627776
end Go.Proofs.YtcndobdbjillpaaGreatDoor
namespace Go.Proofs.YtcndobdbjillpaaGreatDoor
open Go.RowKit
set_option linter.unusedVariables false
set_option linter.unusedSimpArgs false
theorem OwnE.go {B : Nat} {L : List Ent} {v : Value} {w w' : World} (h : OwnE B L v w) (hb : Below w.heap.size w w') : OwnE B L v w' := h.below hb
theorem OwnE.ge {B : Nat} {L : List Ent} {g n cap : Nat} {w : World} (h : OwnE B L (.slice (some ⟨g, 0, none⟩) n cap) w) : B ≤ g := by
  rcases h.2.2 with ⟨he, _⟩ | ⟨g', cap', cur, he, hb, _⟩
  · cases he
  · simp only [Value.slice.injEq, Option.some.injEq, Addr.mk.injEq] at he
    obtain ⟨⟨rfl, _⟩, _⟩ := he
    exact hb
end Go.Proofs.YtcndobdbjillpaaGreatDoor
namespace Go.Proofs.YtcndobdbjillpaaGreatDoor
open Go.RowKit
set_option linter.unusedVariables false
set_option linter.unusedSimpArgs false
theorem OwnE.cut {B : Nat} {L : List Ent} {a : Option Addr} {n cap m : Nat} {w : World} (h : OwnE B L (.slice a n cap) w) (hm : m ≤ L.length) : OwnE B (L.take m) (.slice a m cap) w := by
  obtain ⟨hy, h1, h2⟩ := h
  have hl : (L.take m).length = m := by rw [List.length_take]; omega
  refine ⟨hy.take m, by rw [hl, cellsE_len, hl], ?_⟩
  rw [hl]
  rcases h2 with ⟨he, hn⟩ | ⟨g, cap', cur, he, hb, hg, h3, h4, h5, h6⟩
  · simp only [Value.slice.injEq] at he
    obtain ⟨rfl, rfl, rfl⟩ := he
    exact .inl ⟨by rw [show m = 0 by omega], by omega⟩
  · simp only [Value.slice.injEq] at he
    obtain ⟨rfl, rfl, rfl⟩ := he
    refine .inr ⟨g, cap, cur, rfl, hb, hg, by omega, h4, h5, ?_⟩
    rw [cellsE_take, ← h6, List.take_take, show min (m * 3) (L.length * 3) = m * 3 by omega]
end Go.Proofs.YtcndobdbjillpaaGreatDoor
namespace Go.Proofs.YtcndobdbjillpaaGreatDoor
open Go.RowKit
set_option linter.unusedVariables false
set_option linter.unusedSimpArgs false
def newT (S : Int) : TP := if S < 1 ∨ 32 < S then TP.none else ⟨S, 0, [], false⟩
def newTE (S : Int) : Int := if S < 1 ∨ 32 < S then 5 else 0
set_option maxRecDepth 100000 in
theorem pnew_any (S : Int) (w : World) (S0 : -9223372036854775808 ≤ S) (S1 : S ≤ 9223372036854775807) :
    Calls Tryz.prog 114 #[.int .i64 S] w fun e w' => ∃ v, e = .returned (.tuple #[v, .int .i64 (newTE S)]) ∧ OwnT w.heap.size (newT S) v w' ∧ Below w.heap.size w w' := by
  have hz := fun w => isz_any S w S0 S1
  unfold newT newTE
  by_cases hs : S < 1 ∨ 32 < S
  · rw [show (decide (1 ≤ S) && decide (S ≤ 32)) = false by rw [Bool.and_eq_false_iff]; simp; omega] at hz
    rw [if_pos hs, if_pos hs]
    clear hs
    go_enter Tryz.func114, Tryz.ntmps114
    go_wp2_with (go_at_call 193; refine (hz _).mono ?_; rintro e w' ⟨rfl, rfl⟩)
    refine bodyPost_ret (v := .tuple #[.agg #[.int .i64 0, .int .i64 0, .slice none 0 0, .bool false], .int .i64 5]) (by simp [results, Tryz.results114, go_sem, *]) rfl ⟨_, rfl, ⟨none, 0, 0, rfl, OwnE.empty _ _⟩, b1 _⟩
  · rw [show (decide (1 ≤ S) && decide (S ≤ 32)) = true by simp; omega] at hz
    rw [if_neg hs, if_neg hs]
    clear hs
    go_enter Tryz.func114, Tryz.ntmps114
    go_wp2_with (go_at_call 193; refine (hz _).mono ?_; rintro e w' ⟨rfl, rfl⟩)
    refine bodyPost_ret (v := .tuple #[.agg #[.int .i64 S, .int .i64 0, .slice none 0 0, .bool false], .int .i64 0]) (by simp [results, Tryz.results114, go_sem, *]) rfl ⟨_, rfl, ⟨none, 0, 0, rfl, OwnE.empty _ _⟩, b1 _⟩
set_option maxRecDepth 100000 in
theorem rnew_any (S : Int) (w : World) (S0 : -9223372036854775808 ≤ S) (S1 : S ≤ 9223372036854775807) :
    Calls Tryz.prog 46 #[.int .i64 S] w fun e w' => ∃ v, e = .returned (.tuple #[v, .int .i64 (newTE S)]) ∧ OwnT w.heap.size (newT S) v w' ∧ Below w.heap.size w w' := by
  have hz := fun w => within_any S 1 32 w
  unfold newT newTE
  by_cases hs : S < 1 ∨ 32 < S
  · rw [show (decide (1 ≤ S) && decide (S ≤ 32)) = false by rw [Bool.and_eq_false_iff]; simp; omega] at hz
    rw [if_pos hs, if_pos hs]
    clear hs
    go_enter Tryz.func46, Tryz.ntmps46
    go_wp2_with (go_at_call 117; refine (hz _).mono ?_; rintro e w' ⟨rfl, rfl⟩)
    refine bodyPost_ret (v := .tuple #[.agg #[.int .i64 0, .int .i64 0, .slice none 0 0, .bool false], .int .i64 5]) (by simp [results, Tryz.results46, go_sem, *]) rfl ⟨_, rfl, ⟨none, 0, 0, rfl, OwnE.empty _ _⟩, b1 _⟩
  · rw [show (decide (1 ≤ S) && decide (S ≤ 32)) = true by simp; omega] at hz
    rw [if_neg hs, if_neg hs]
    clear hs
    go_enter Tryz.func46, Tryz.ntmps46
    go_wp2_with (go_at_call 117; refine (hz _).mono ?_; rintro e w' ⟨rfl, rfl⟩)
    refine bodyPost_ret (v := .tuple #[.agg #[.int .i64 S, .int .i64 0, .slice none 0 0, .bool false], .int .i64 0]) (by simp [results, Tryz.results46, go_sem, *]) rfl ⟨_, rfl, ⟨none, 0, 0, rfl, OwnE.empty _ _⟩, b1 _⟩
set_option maxRecDepth 100000 in
set_option maxHeartbeats 1000000 in
theorem sameE_any (L : List Ent) (v u : Value) (w : World) (hv : RdE L v w) (hu : RdE L u w) (hn : L.length ≤ 549755813888) :
    Calls Tryz.prog 119 #[v, u] w fun e w' => e = .returned (.bool true) ∧ Below w.heap.size w w' := by
  obtain ⟨a, cap, rfl⟩ := hv.shape
  obtain ⟨a2, cap2, rfl⟩ := hu.shape
  have HR := Lib.hid hv
  have HU := Lib.hid hu
  clear hv hu
  go_enter Tryz.func119, Tryz.ntmps119
  go_wp2
  go_loopw [5] (fun i wr => ∃ j : Nat, j ≤ L.length ∧ i = .int .i64 (j : Int) ∧ Hid (Below w.heap.size w wr)) (fun i _ => L.length - (intOf i).toNat)
  case atStart => exact ⟨0, by omega, rfl, Lib.hid (Below.refl _ _)⟩
  case round =>
    obtain ⟨j, hj, rfl, HI⟩ := hrel
    by_cases hlt : j < L.length
    · have hlt2 : (j : Int) < (L.length : Int) := by omega
      obtain ⟨-, a1, cap1, he1, -, -, hc1⟩ := HR.out.below HI.out
      simp only [Value.slice.injEq, true_and] at he1
      obtain ⟨rfl, rfl⟩ := he1
      obtain ⟨b, off, rfl, hb, hcell⟩ := hc1 (by omega)
      obtain ⟨c0, c1, c2⟩ := hcell j hlt
      obtain ⟨-, a3, cap3, he3, -, -, hc3⟩ := HU.out.below HI.out
      simp only [Value.slice.injEq, true_and] at he3
      obtain ⟨rfl, rfl⟩ := he3
      obtain ⟨b3, off3, rfl, hb3, hcell3⟩ := hc3 (by omega)
      obtain ⟨d0, d1, d2⟩ := hcell3 j hlt
      clear hc1 hcell hc3 hcell3
      generalize L.getD j Ent.z = X at *
      go_wp2
      go_quiet (fail)
      go_wp2
      exact ⟨⟨j + 1, by omega, by go_num, Lib.hid (below_drewN HI.out _)⟩, by simp [intOf]; omega⟩
    · obtain rfl : j = L.length := by omega
      go_wp2
      go_ret
      exact ⟨rfl, HI.out⟩
set_option maxRecDepth 100000 in
theorem sameT_any (t : TP) (v u : Value) (w : World) (hv : RdT t v w) (hu : RdT t u w) (hn : t.L.length ≤ 549755813888) :
    Calls Tryz.prog 51 #[v, u] w fun e w' => e = .returned (.bool true) ∧ Below w.heap.size w w' := by
  obtain ⟨S, T, L, s⟩ := t
  obtain ⟨a, n, cap, rfl, hR⟩ := hv
  obtain ⟨a2, n2, cap2, rfl, hR2⟩ := hu
  dsimp only at hR hR2 hn ⊢
  have hs := Lib.hid (sameE_any L (.slice a n cap) (.slice a2 n2 cap2) ((w.alloc (.cells #[.int .i64 S, .int .i64 T, .slice a n cap, .bool s] 35)).alloc (.cells #[.int .i64 S, .int .i64 T, .slice a2 n2 cap2, .bool s] 35)) (hR.below (b2 _ _)) (hR2.below (b2 _ _)) hn)
  clear hR hR2
  go_enter Tryz.func51, Tryz.ntmps51
  go_wp2_with (go_at_call 119; refine hs.out.mono ?_; rintro e w2 ⟨rfl, hb2⟩; have B2 := Lib.hid (bgo (b2 _ _) hb2); clear hb2)
  go_ret
  exact ⟨rfl, B2.out⟩
end Go.Proofs.YtcndobdbjillpaaGreatDoor
namespace Go.Proofs.YtcndobdbjillpaaGreatDoor
open Go.RowKit
set_option linter.unusedVariables false
set_option linter.unusedSimpArgs false
structure FQ where
  S : Int
  T : Int
  K : Int
  L : List Ent
  s : Bool
def FQ.none : FQ := ⟨0, 0, 0, [], false⟩
/-- A summary that can be read. -/
def RdQ (t : FQ) (v : Value) (w : World) : Prop := ∃ a n cap, v = .agg #[.int .i64 t.S, .int .i64 t.T, .int .i64 t.K, .slice a n cap, .bool t.s] ∧ RdE t.L (.slice a n cap) w
theorem RdQ.below {t : FQ} {v : Value} {w w' : World} (h : RdQ t v w) (hb : Below w.heap.size w w') : RdQ t v w' := by
  obtain ⟨a, n, cap, rfl, h⟩ := h
  exact ⟨a, n, cap, rfl, h.below hb⟩
/-- A summary of the call's own. -/
def OwnQ (B : Nat) (t : FQ) (v : Value) (w : World) : Prop := ∃ a n cap, v = .agg #[.int .i64 t.S, .int .i64 t.T, .int .i64 t.K, .slice a n cap, .bool t.s] ∧ OwnE B t.L (.slice a n cap) w
theorem OwnQ.rd {B : Nat} {t : FQ} {v : Value} {w : World} (h : OwnQ B t v w) : RdQ t v w := by
  obtain ⟨a, n, cap, rfl, h⟩ := h
  exact ⟨a, n, cap, rfl, h.rd⟩
theorem OwnQ.below {B : Nat} {t : FQ} {v : Value} {w w' : World} (h : OwnQ B t v w) (hb : Below w.heap.size w w') : OwnQ B t v w' := by
  obtain ⟨a, n, cap, rfl, h⟩ := h
  exact ⟨a, n, cap, rfl, h.below hb⟩
/-- A struct of five cells in memory: a summary. -/
def FqS (g : Nat) (S T K : Int) (v : Value) (s : Bool) (w : World) : Prop :=
  (w.cell? ⟨g, 0, none⟩ = some (.int .i64 S) ∧ w.cell? ⟨g, 1, none⟩ = some (.int .i64 T) ∧ w.cell? ⟨g, 2, none⟩ = some (.int .i64 K) ∧ w.cell? ⟨g, 3, none⟩ = some v ∧ w.cell? ⟨g, 4, none⟩ = some (.bool s)) ∧
    w.frozen? ⟨g, 0, none⟩ = false ∧ w.frozen? ⟨g, 1, none⟩ = false ∧ w.frozen? ⟨g, 2, none⟩ = false ∧ w.frozen? ⟨g, 3, none⟩ = false ∧ w.frozen? ⟨g, 4, none⟩ = false
theorem FqS.keep {g : Nat} {S T K : Int} {v : Value} {s : Bool} {w w' : World} (h : FqS g S T K v s w) (hb : w'.heap[g]? = w.heap[g]?) : FqS g S T K v s w' := by
  obtain ⟨⟨h0, h1, h2, h3, h4⟩, f0, f1, f2, f3, f4⟩ := h
  have hc : ∀ o, w'.cell? ⟨g, o, none⟩ = w.cell? ⟨g, o, none⟩ := fun o => World.cell?_of_block (w := w) (a := ⟨g, o, none⟩) hb
  have hf : ∀ o, w'.frozen? ⟨g, o, none⟩ = w.frozen? ⟨g, o, none⟩ := fun o => World.frozen?_of_block (w := w) (a := ⟨g, o, none⟩) hb
  exact ⟨⟨(hc _).trans h0, (hc _).trans h1, (hc _).trans h2, (hc _).trans h3, (hc _).trans h4⟩, (hf _).trans f0, (hf _).trans f1, (hf _).trans f2, (hf _).trans f3, (hf _).trans f4⟩
theorem FqS.below {g : Nat} {S T K : Int} {v : Value} {s : Bool} {w w' : World} (h : FqS g S T K v s w) {B : Nat} (hb : Below B w w') (hg : g < B) : FqS g S T K v s w' := h.keep (hb.block g hg)
theorem FqS.new (S T K : Int) (v : Value) (s : Bool) (t : TypeId) (w : World) : FqS w.heap.size S T K v s (w.alloc (.cells #[.int .i64 S, .int .i64 T, .int .i64 K, v, .bool s] t)) := by
  exact ⟨⟨by go_simp, by go_simp, by go_simp, by go_simp, by go_simp⟩, by go_simp, by go_simp, by go_simp, by go_simp, by go_simp⟩
theorem FqS.lt {g : Nat} {S T K : Int} {v : Value} {s : Bool} {w : World} (h : FqS g S T K v s w) : g < w.heap.size := by
  have h0 := h.1.1
  unfold World.cell? at h0
  cases hb : w.heap[g]? with
  | none => simp [hb] at h0
  | some o => exact (Array.getElem?_eq_some_iff.1 hb).1
theorem FqS.go {g : Nat} {S T K : Int} {v : Value} {s : Bool} {w w' : World} (h : FqS g S T K v s w) (hb : Below w.heap.size w w') : FqS g S T K v s w' := h.below hb h.lt
/-- What is wrong with an entry. -/
def entQ (x : Ent) : Int := if keyB (byt x.k) = false then 7 else if x.c < 1 ∨ 1099511627776 < x.c ∨ x.e ≠ 0 then 5 else 0
/-- What is wrong at position i. -/
def errQ (L : List Ent) (i : Nat) : Int :=
  if entQ (L.getD i Ent.z) ≠ 0 then entQ (L.getD i Ent.z) else if 0 < i ∧ lessK (L.getD (i - 1) Ent.z).k (L.getD i Ent.z).k = false then 19 else 0
/-- The first error among the m entries from i on. -/
def vgoQ (L : List Ent) : Nat → Nat → Int
  | 0, _ => 0
  | m + 1, i => if errQ L i ≠ 0 then errQ L i else vgoQ L m (i + 1)
def parQ (S T K : Int) : Bool := decide (1 ≤ S) && decide (S ≤ 32) && (decide (0 ≤ T) && decide (T ≤ 1099511627776)) && (decide (0 ≤ K) && decide (K ≤ 1099511627776))
def valQ (S T K : Int) (L : List Ent) : Int := if parQ S T K = false then 5 else if S < L.length then 11 else vgoQ L L.length 0
theorem parQ_iff (S T K : Int) : parQ S T K = true ↔ 1 ≤ S ∧ S ≤ 32 ∧ 0 ≤ T ∧ T ≤ 1099511627776 ∧ 0 ≤ K ∧ K ≤ 1099511627776 := by
  unfold parQ
  simp [and_assoc]
theorem entQ_zero {x : Ent} (h : entQ x = 0) : keyB (byt x.k) = true ∧ 1 ≤ x.c ∧ x.c ≤ 1099511627776 ∧ x.e = 0 := by
  unfold entQ at h
  cases hk : keyB (byt x.k) with
  | false => rw [hk, if_pos rfl] at h; cases h
  | true =>
    rw [hk, if_neg (by simp)] at h
    by_cases hb : x.c < 1 ∨ 1099511627776 < x.c ∨ x.e ≠ 0
    · rw [if_pos hb] at h; cases h
    · exact ⟨rfl, by omega, by omega, by omega⟩
end Go.Proofs.YtcndobdbjillpaaGreatDoor
namespace Go.Proofs.YtcndobdbjillpaaGreatDoor
open Go.RowKit
set_option linter.unusedVariables false
set_option linter.unusedSimpArgs false
/-- No key twice. -/
def Keyed (L : List Ent) : Prop := L.Pairwise (fun x y => sameK x.k y.k = false)
end Go.Proofs.YtcndobdbjillpaaGreatDoor
namespace Go.Proofs.YtcndobdbjillpaaGreatDoor
open Go.RowKit
set_option linter.unusedVariables false
set_option linter.unusedSimpArgs false
/-- Only block g has turned. -/
def Oth (g : Nat) (w w' : World) : Prop := Below g w w' ∧ ∀ b, b ≠ g → w'.heap[b]? = w.heap[b]?
theorem OwnI.oth {B g : Nat} {L : List Int} {v : Value} {w w' : World} (h : OwnI B L v w) (ho : Oth g w w') (hg : g < B) : OwnI B L v w' := by
  obtain ⟨hy, h1, h2⟩ := h
  refine ⟨hy, h1, ?_⟩
  rcases h2 with h2 | ⟨b, cap, cur, rfl, hb', hg', r⟩
  · exact .inl h2
  · exact .inr ⟨b, cap, cur, rfl, hb', (ho.2 b (by omega)).trans hg', r⟩
end Go.Proofs.YtcndobdbjillpaaGreatDoor
namespace Go.Proofs.YtcndobdbjillpaaGreatDoor
open Go.RowKit
set_option linter.unusedVariables false
set_option linter.unusedSimpArgs false
theorem mask4 (n : Int) : bits .and .i64 n 15 = n % 16 := i64_mask 4 (by decide) n
end Go.Proofs.YtcndobdbjillpaaGreatDoor
namespace Go.Proofs.YtcndobdbjillpaaGreatDoor
open Go.RowKit
set_option linter.unusedVariables false
set_option linter.unusedSimpArgs false
theorem mask2 (n : Int) : bits .and .i64 n 3 = n % 4 := i64_mask 2 (by decide) n
theorem mask3 (n : Int) : bits .and .i64 n 7 = n % 8 := i64_mask 3 (by decide) n
theorem mask16 (n : Int) : bits .and .i64 n 65535 = n % 65536 := i64_mask 16 (by decide) n
end Go.Proofs.YtcndobdbjillpaaGreatDoor
