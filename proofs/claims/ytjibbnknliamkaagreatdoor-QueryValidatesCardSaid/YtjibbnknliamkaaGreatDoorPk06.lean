/- Same9, FqN, SpcA, OthI, KeyS, SameI, CmSame: in one text. -/
import Derived.Test.YtjibbnknliamkaaGreatDoorPk05
import Derived.Test.YtjibbnknliamkaaGreatDoorPk03
import Derived.Test.YtjibbnknliamkaaGreatDoorPk01
import Derived.Test.YtjibbnknliamkaaGreatDoorPk00
import Derived.Test.YtjibbnknliamkaaGreatDoorPk02
import Derived.Deep.MidRow
namespace Go.Proofs.YtjibbnknliamkaaGreatDoor
open Go.RowKit
set_option linter.unusedVariables false
set_option linter.unusedSimpArgs false
def newT (S : Int) : TP := if S < 1 ∨ 32 < S then TP.none else ⟨S, 0, [], false⟩
def newTE (S : Int) : Int := if S < 1 ∨ 32 < S then 5 else 0
set_option maxRecDepth 100000 in
theorem pnew_any (S : Int) (w : World) (S0 : -9223372036854775808 ≤ S) (S1 : S ≤ 9223372036854775807) :
    Calls Tryz.prog 178 #[.int .i64 S] w fun e w' => ∃ v, e = .returned (.tuple #[v, .int .i64 (newTE S)]) ∧ OwnT w.heap.size (newT S) v w' ∧ Below w.heap.size w w' := by
  have hz := fun w => isz_any S w S0 S1
  unfold newT newTE
  by_cases hs : S < 1 ∨ 32 < S
  · rw [show (decide (1 ≤ S) && decide (S ≤ 32)) = false by rw [Bool.and_eq_false_iff]; simp; omega] at hz
    rw [if_pos hs, if_pos hs]
    clear hs
    go_enter Tryz.func178, Tryz.ntmps178
    go_wp2_with (go_at_call 142; refine (hz _).mono ?_; rintro e w' ⟨rfl, rfl⟩)
    refine bodyPost_ret (v := .tuple #[.agg #[.int .i64 0, .int .i64 0, .slice none 0 0, .bool false], .int .i64 5]) (by simp [results, Tryz.results178, go_sem, *]) rfl ⟨_, rfl, ⟨none, 0, 0, rfl, OwnE.empty _ _⟩, b1 _⟩
  · rw [show (decide (1 ≤ S) && decide (S ≤ 32)) = true by simp; omega] at hz
    rw [if_neg hs, if_neg hs]
    clear hs
    go_enter Tryz.func178, Tryz.ntmps178
    go_wp2_with (go_at_call 142; refine (hz _).mono ?_; rintro e w' ⟨rfl, rfl⟩)
    refine bodyPost_ret (v := .tuple #[.agg #[.int .i64 S, .int .i64 0, .slice none 0 0, .bool false], .int .i64 0]) (by simp [results, Tryz.results178, go_sem, *]) rfl ⟨_, rfl, ⟨none, 0, 0, rfl, OwnE.empty _ _⟩, b1 _⟩
set_option maxRecDepth 100000 in
theorem rnew_any (S : Int) (w : World) (S0 : -9223372036854775808 ≤ S) (S1 : S ≤ 9223372036854775807) :
    Calls Tryz.prog 51 #[.int .i64 S] w fun e w' => ∃ v, e = .returned (.tuple #[v, .int .i64 (newTE S)]) ∧ OwnT w.heap.size (newT S) v w' ∧ Below w.heap.size w w' := by
  have hz := fun w => within_any S 1 32 w
  unfold newT newTE
  by_cases hs : S < 1 ∨ 32 < S
  · rw [show (decide (1 ≤ S) && decide (S ≤ 32)) = false by rw [Bool.and_eq_false_iff]; simp; omega] at hz
    rw [if_pos hs, if_pos hs]
    clear hs
    go_enter Tryz.func51, Tryz.ntmps51
    go_wp2_with (go_at_call 87; refine (hz _).mono ?_; rintro e w' ⟨rfl, rfl⟩)
    refine bodyPost_ret (v := .tuple #[.agg #[.int .i64 0, .int .i64 0, .slice none 0 0, .bool false], .int .i64 5]) (by simp [results, Tryz.results51, go_sem, *]) rfl ⟨_, rfl, ⟨none, 0, 0, rfl, OwnE.empty _ _⟩, b1 _⟩
  · rw [show (decide (1 ≤ S) && decide (S ≤ 32)) = true by simp; omega] at hz
    rw [if_neg hs, if_neg hs]
    clear hs
    go_enter Tryz.func51, Tryz.ntmps51
    go_wp2_with (go_at_call 87; refine (hz _).mono ?_; rintro e w' ⟨rfl, rfl⟩)
    refine bodyPost_ret (v := .tuple #[.agg #[.int .i64 S, .int .i64 0, .slice none 0 0, .bool false], .int .i64 0]) (by simp [results, Tryz.results51, go_sem, *]) rfl ⟨_, rfl, ⟨none, 0, 0, rfl, OwnE.empty _ _⟩, b1 _⟩
set_option maxRecDepth 100000 in
set_option maxHeartbeats 1000000 in
theorem sameE_any (L : List Ent) (v u : Value) (w : World) (hv : RdE L v w) (hu : RdE L u w) (hn : L.length ≤ 549755813888) :
    Calls Tryz.prog 20 #[v, u] w fun e w' => e = .returned (.bool true) ∧ Below w.heap.size w w' := by
  obtain ⟨a, cap, rfl⟩ := hv.shape
  obtain ⟨a2, cap2, rfl⟩ := hu.shape
  have HR := Lib.hid hv
  have HU := Lib.hid hu
  clear hv hu
  go_enter Tryz.func20, Tryz.ntmps20
  go_wp2
  go_loopw [5] (fun i wr => ∃ j : Nat, j ≤ L.length ∧ i = .int .i64 (j : Int) ∧ Hid (Below w.heap.size w wr)) (fun i _ => L.length - (intOf i).toNat)
  case atStart => exact ⟨0, by omega, rfl, Lib.hid (Below.refl _ _)⟩
  case round =>
    obtain ⟨j, hj, rfl, HI⟩ := hrel
    by_cases hlt : j < L.length
    · have hlt2 : (j : Int) < (L.length : Int) := by omega
      obtain ⟨-, a1, cap1, he1, -, -, hc1⟩ := HR.out.below HI.out
      simp only [Value.slice.injEq, true_and] at he1
      obtain ⟨rfl, rfl⟩ := he1
      obtain ⟨b, off, rfl, hb, hcell⟩ := hc1 (by omega)
      obtain ⟨c0, c1, c2⟩ := hcell j hlt
      obtain ⟨-, a3, cap3, he3, -, -, hc3⟩ := HU.out.below HI.out
      simp only [Value.slice.injEq, true_and] at he3
      obtain ⟨rfl, rfl⟩ := he3
      obtain ⟨b3, off3, rfl, hb3, hcell3⟩ := hc3 (by omega)
      obtain ⟨d0, d1, d2⟩ := hcell3 j hlt
      clear hc1 hcell hc3 hcell3
      generalize L.getD j Ent.z = X at *
      go_wp2
      go_quiet (fail)
      go_wp2
      exact ⟨⟨j + 1, by omega, by go_num, Lib.hid (below_drewN HI.out _)⟩, by simp [intOf]; omega⟩
    · obtain rfl : j = L.length := by omega
      go_wp2
      go_ret
      exact ⟨rfl, HI.out⟩
set_option maxRecDepth 100000 in
theorem sameT_any (t : TP) (v u : Value) (w : World) (hv : RdT t v w) (hu : RdT t u w) (hn : t.L.length ≤ 549755813888) :
    Calls Tryz.prog 124 #[v, u] w fun e w' => e = .returned (.bool true) ∧ Below w.heap.size w w' := by
  obtain ⟨S, T, L, s⟩ := t
  obtain ⟨a, n, cap, rfl, hR⟩ := hv
  obtain ⟨a2, n2, cap2, rfl, hR2⟩ := hu
  dsimp only at hR hR2 hn ⊢
  have hs := Lib.hid (sameE_any L (.slice a n cap) (.slice a2 n2 cap2) ((w.alloc (.cells #[.int .i64 S, .int .i64 T, .slice a n cap, .bool s] 41)).alloc (.cells #[.int .i64 S, .int .i64 T, .slice a2 n2 cap2, .bool s] 41)) (hR.below (b2 _ _)) (hR2.below (b2 _ _)) hn)
  clear hR hR2
  go_enter Tryz.func124, Tryz.ntmps124
  go_wp2_with (go_at_call 20; refine hs.out.mono ?_; rintro e w2 ⟨rfl, hb2⟩; have B2 := Lib.hid (bgo (b2 _ _) hb2); clear hb2)
  go_ret
  exact ⟨rfl, B2.out⟩
end Go.Proofs.YtjibbnknliamkaaGreatDoor
namespace Go.Proofs.YtjibbnknliamkaaGreatDoor
open Go.RowKit
set_option linter.unusedVariables false
set_option linter.unusedSimpArgs false
structure FQ where
  S : Int
  T : Int
  K : Int
  L : List Ent
  s : Bool
def FQ.none : FQ := ⟨0, 0, 0, [], false⟩
/-- A summary that can be read. -/
def RdQ (t : FQ) (v : Value) (w : World) : Prop := ∃ a n cap, v = .agg #[.int .i64 t.S, .int .i64 t.T, .int .i64 t.K, .slice a n cap, .bool t.s] ∧ RdE t.L (.slice a n cap) w
theorem RdQ.below {t : FQ} {v : Value} {w w' : World} (h : RdQ t v w) (hb : Below w.heap.size w w') : RdQ t v w' := by
  obtain ⟨a, n, cap, rfl, h⟩ := h
  exact ⟨a, n, cap, rfl, h.below hb⟩
/-- A summary of the call's own. -/
def OwnQ (B : Nat) (t : FQ) (v : Value) (w : World) : Prop := ∃ a n cap, v = .agg #[.int .i64 t.S, .int .i64 t.T, .int .i64 t.K, .slice a n cap, .bool t.s] ∧ OwnE B t.L (.slice a n cap) w
theorem OwnQ.rd {B : Nat} {t : FQ} {v : Value} {w : World} (h : OwnQ B t v w) : RdQ t v w := by
  obtain ⟨a, n, cap, rfl, h⟩ := h
  exact ⟨a, n, cap, rfl, h.rd⟩
theorem OwnQ.below {B : Nat} {t : FQ} {v : Value} {w w' : World} (h : OwnQ B t v w) (hb : Below w.heap.size w w') : OwnQ B t v w' := by
  obtain ⟨a, n, cap, rfl, h⟩ := h
  exact ⟨a, n, cap, rfl, h.below hb⟩
/-- A struct of five cells in memory: a summary. -/
def FqS (g : Nat) (S T K : Int) (v : Value) (s : Bool) (w : World) : Prop :=
  (w.cell? ⟨g, 0, none⟩ = some (.int .i64 S) ∧ w.cell? ⟨g, 1, none⟩ = some (.int .i64 T) ∧ w.cell? ⟨g, 2, none⟩ = some (.int .i64 K) ∧ w.cell? ⟨g, 3, none⟩ = some v ∧ w.cell? ⟨g, 4, none⟩ = some (.bool s)) ∧
    w.frozen? ⟨g, 0, none⟩ = false ∧ w.frozen? ⟨g, 1, none⟩ = false ∧ w.frozen? ⟨g, 2, none⟩ = false ∧ w.frozen? ⟨g, 3, none⟩ = false ∧ w.frozen? ⟨g, 4, none⟩ = false
theorem FqS.keep {g : Nat} {S T K : Int} {v : Value} {s : Bool} {w w' : World} (h : FqS g S T K v s w) (hb : w'.heap[g]? = w.heap[g]?) : FqS g S T K v s w' := by
  obtain ⟨⟨h0, h1, h2, h3, h4⟩, f0, f1, f2, f3, f4⟩ := h
  have hc : ∀ o, w'.cell? ⟨g, o, none⟩ = w.cell? ⟨g, o, none⟩ := fun o => World.cell?_of_block (w := w) (a := ⟨g, o, none⟩) hb
  have hf : ∀ o, w'.frozen? ⟨g, o, none⟩ = w.frozen? ⟨g, o, none⟩ := fun o => World.frozen?_of_block (w := w) (a := ⟨g, o, none⟩) hb
  exact ⟨⟨(hc _).trans h0, (hc _).trans h1, (hc _).trans h2, (hc _).trans h3, (hc _).trans h4⟩, (hf _).trans f0, (hf _).trans f1, (hf _).trans f2, (hf _).trans f3, (hf _).trans f4⟩
theorem FqS.below {g : Nat} {S T K : Int} {v : Value} {s : Bool} {w w' : World} (h : FqS g S T K v s w) {B : Nat} (hb : Below B w w') (hg : g < B) : FqS g S T K v s w' := h.keep (hb.block g hg)
theorem FqS.new (S T K : Int) (v : Value) (s : Bool) (t : TypeId) (w : World) : FqS w.heap.size S T K v s (w.alloc (.cells #[.int .i64 S, .int .i64 T, .int .i64 K, v, .bool s] t)) := by
  exact ⟨⟨by go_simp, by go_simp, by go_simp, by go_simp, by go_simp⟩, by go_simp, by go_simp, by go_simp, by go_simp, by go_simp⟩
theorem FqS.lt {g : Nat} {S T K : Int} {v : Value} {s : Bool} {w : World} (h : FqS g S T K v s w) : g < w.heap.size := by
  have h0 := h.1.1
  unfold World.cell? at h0
  cases hb : w.heap[g]? with
  | none => simp [hb] at h0
  | some o => exact (Array.getElem?_eq_some_iff.1 hb).1
theorem FqS.go {g : Nat} {S T K : Int} {v : Value} {s : Bool} {w w' : World} (h : FqS g S T K v s w) (hb : Below w.heap.size w w') : FqS g S T K v s w' := h.below hb h.lt
/-- What is wrong with an entry. -/
def entQ (x : Ent) : Int := if keyB (byt x.k) = false then 7 else if x.c < 1 ∨ 1099511627776 < x.c ∨ x.e ≠ 0 then 5 else 0
/-- What is wrong at position i. -/
def errQ (L : List Ent) (i : Nat) : Int :=
  if entQ (L.getD i Ent.z) ≠ 0 then entQ (L.getD i Ent.z) else if 0 < i ∧ lessK (L.getD (i - 1) Ent.z).k (L.getD i Ent.z).k = false then 19 else 0
/-- The first error among the m entries from i on. -/
def vgoQ (L : List Ent) : Nat → Nat → Int
  | 0, _ => 0
  | m + 1, i => if errQ L i ≠ 0 then errQ L i else vgoQ L m (i + 1)
def parQ (S T K : Int) : Bool := decide (1 ≤ S) && decide (S ≤ 32) && (decide (0 ≤ T) && decide (T ≤ 1099511627776)) && (decide (0 ≤ K) && decide (K ≤ 1099511627776))
def valQ (S T K : Int) (L : List Ent) : Int := if parQ S T K = false then 5 else if S < L.length then 11 else vgoQ L L.length 0
theorem parQ_iff (S T K : Int) : parQ S T K = true ↔ 1 ≤ S ∧ S ≤ 32 ∧ 0 ≤ T ∧ T ≤ 1099511627776 ∧ 0 ≤ K ∧ K ≤ 1099511627776 := by
  unfold parQ
  simp [and_assoc]
theorem entQ_zero {x : Ent} (h : entQ x = 0) : keyB (byt x.k) = true ∧ 1 ≤ x.c ∧ x.c ≤ 1099511627776 ∧ x.e = 0 := by
  unfold entQ at h
  cases hk : keyB (byt x.k) with
  | false => rw [hk, if_pos rfl] at h; cases h
  | true =>
    rw [hk, if_neg (by simp)] at h
    by_cases hb : x.c < 1 ∨ 1099511627776 < x.c ∨ x.e ≠ 0
    · rw [if_pos hb] at h; cases h
    · exact ⟨rfl, by omega, by omega, by omega⟩
end Go.Proofs.YtjibbnknliamkaaGreatDoor
namespace Go.Proofs.YtjibbnknliamkaaGreatDoor
open Go.RowKit
set_option linter.unusedVariables false
set_option linter.unusedSimpArgs false
/-- No key twice. -/
def Keyed (L : List Ent) : Prop := L.Pairwise (fun x y => sameK x.k y.k = false)
end Go.Proofs.YtjibbnknliamkaaGreatDoor
namespace Go.Proofs.YtjibbnknliamkaaGreatDoor
open Go.RowKit
set_option linter.unusedVariables false
set_option linter.unusedSimpArgs false
/-- Only block g has turned. -/
def Oth (g : Nat) (w w' : World) : Prop := Below g w w' ∧ ∀ b, b ≠ g → w'.heap[b]? = w.heap[b]?
theorem OwnI.oth {B g : Nat} {L : List Int} {v : Value} {w w' : World} (h : OwnI B L v w) (ho : Oth g w w') (hg : g < B) : OwnI B L v w' := by
  obtain ⟨hy, h1, h2⟩ := h
  refine ⟨hy, h1, ?_⟩
  rcases h2 with h2 | ⟨b, cap, cur, rfl, hb', hg', r⟩
  · exact .inl h2
  · exact .inr ⟨b, cap, cur, rfl, hb', (ho.2 b (by omega)).trans hg', r⟩
end Go.Proofs.YtjibbnknliamkaaGreatDoor
namespace Go.Proofs.YtjibbnknliamkaaGreatDoor
open Go.RowKit
set_option linter.unusedVariables false
set_option linter.unusedSimpArgs false
def keyTab : List ByteArray := [⟨#[97]⟩, ⟨#[98]⟩, ⟨#[99]⟩, ⟨#[100]⟩, ⟨#[101]⟩, ⟨#[102]⟩, ⟨#[97, 97]⟩, ⟨#[98, 32, 99]⟩, ⟨#[37, 54, 49]⟩, ⟨#[65, 58, 49]⟩, ⟨#[0]⟩, ⟨#[122, 47, 255]⟩]
def keyS (n : Int) : ByteArray := if n / 256 % 16 = 15 then strOfNums [n % 256, n / 2 % 256, n / 8 % 256] else keyTab.getD (n % 256 % 12).toNat ByteArray.empty
theorem keyTab_fin : ∀ i : Fin 12, 1 ≤ (keyTab.getD i.val ByteArray.empty).size ∧ (keyTab.getD i.val ByteArray.empty).size ≤ 3 := by decide +kernel
theorem keyS_bd (n : Int) : 1 ≤ (keyS n).size ∧ (keyS n).size ≤ 3 := by
  unfold keyS
  split
  · rw [str_size]; simp
  · exact keyTab_fin ⟨(n % 256 % 12).toNat, by omega⟩
theorem Own.three {c d e : Int} (hc : 0 ≤ c ∧ c ≤ 255) (hd : 0 ≤ d ∧ d ≤ 255) (he : 0 ≤ e ∧ e ≤ 255) (w : World) : Own w.heap.size [c, d, e] (.slice (some ⟨w.heap.size, 0, none⟩) 3 3) (w.alloc (.cells #[.int .u8 c, .int .u8 d, .int .u8 e] 5)) :=
  ⟨Byt.cons hc (Byt.cons hd (Byt.cons he Byt.nil)), rfl, .inr ⟨w.heap.size, 3, #[.int .u8 c, .int .u8 d, .int .u8 e], rfl, Nat.le_refl _, Go.heap_alloc_new w _, Nat.le_refl _, by decide, rfl, rfl⟩⟩
theorem mask4 (n : Int) : bits .and .i64 n 15 = n % 16 := i64_mask 4 (by decide) n
theorem mask8 (n : Int) : bits .and .i64 n 255 = n % 256 := i64_mask 8 (by decide) n
set_option maxRecDepth 100000 in
set_option maxHeartbeats 1000000 in
theorem key_any (n : Int) (w : World) (n0 : -9223372036854775808 ≤ n) (n1 : n ≤ 9223372036854775807) :
    Calls Tryz.prog 23 #[.int .i64 n] w fun e w' => e = .returned (.string (keyS n)) ∧ Below w.heap.size w w' := by
  have h1 := mask4 (n / 256)
  have h2 := mask8 n
  by_cases hk : n / 256 % 16 = 15
  · unfold keyS
    rw [if_pos hk]
    have hk' : (n / 256 % 16 == 15) = true := by simp [hk]
    have hb := (Own.three (c := n % 256) (d := n / 2 % 256) (e := n / 8 % 256) (by omega) (by omega) (by omega) (w.alloc (.cells #[.string ⟨#[97]⟩, .string ⟨#[98]⟩, .string ⟨#[99]⟩, .string ⟨#[100]⟩, .string ⟨#[101]⟩, .string ⟨#[102]⟩, .string ⟨#[97, 97]⟩, .string ⟨#[98, 32, 99]⟩, .string ⟨#[37, 54, 49]⟩, .string ⟨#[65, 58, 49]⟩, .string ⟨#[0]⟩, .string ⟨#[122, 47, 255]⟩] 9))).rd.conv
    have hz : (w.alloc (.cells #[.string ⟨#[97]⟩, .string ⟨#[98]⟩, .string ⟨#[99]⟩, .string ⟨#[100]⟩, .string ⟨#[101]⟩, .string ⟨#[102]⟩, .string ⟨#[97, 97]⟩, .string ⟨#[98, 32, 99]⟩, .string ⟨#[37, 54, 49]⟩, .string ⟨#[65, 58, 49]⟩, .string ⟨#[0]⟩, .string ⟨#[122, 47, 255]⟩] 9)).heap.size = w.heap.size + 1 := by simp
    rw [hz] at hb
    generalize strOfNums [n % 256, n / 2 % 256, n / 8 % 256] = R at *
    clear hz
    go_enter Tryz.func23, Tryz.ntmps23
    go_wp2
    go_ret
    exact ⟨rfl, ((Below.refl _ _).alloc (Nat.le_refl _) _).alloc (by simp) _⟩
  · unfold keyS
    rw [if_neg hk]
    have hk' : (n / 256 % 16 == 15) = false := beq_eq_false_iff_ne.2 hk
    obtain ⟨i, hi⟩ : ∃ i : Nat, n % 256 % 12 = (i : Int) := ⟨(n % 256 % 12).toNat, by omega⟩
    have hi12 : i < 12 := by omega
    have b0 : 0 ≤ n % 256 := by omega
    have b1 : n % 256 ≤ 255 := by omega
    rw [hi, Int.toNat_natCast]
    have hc : (w.alloc (.cells #[.string ⟨#[97]⟩, .string ⟨#[98]⟩, .string ⟨#[99]⟩, .string ⟨#[100]⟩, .string ⟨#[101]⟩, .string ⟨#[102]⟩, .string ⟨#[97, 97]⟩, .string ⟨#[98, 32, 99]⟩, .string ⟨#[37, 54, 49]⟩, .string ⟨#[65, 58, 49]⟩, .string ⟨#[0]⟩, .string ⟨#[122, 47, 255]⟩] 9)).cell? ⟨w.heap.size, i, none⟩ = some (.string (keyTab.getD i ByteArray.empty)) := by
      have e : (#[.string ⟨#[97]⟩, .string ⟨#[98]⟩, .string ⟨#[99]⟩, .string ⟨#[100]⟩, .string ⟨#[101]⟩, .string ⟨#[102]⟩, .string ⟨#[97, 97]⟩, .string ⟨#[98, 32, 99]⟩, .string ⟨#[37, 54, 49]⟩, .string ⟨#[65, 58, 49]⟩, .string ⟨#[0]⟩, .string ⟨#[122, 47, 255]⟩] : Array Value) = (keyTab.map Value.string).toArray := rfl
      rw [e, cell_of_row _ w.heap.size i _ 9 (0, 0) (Go.heap_alloc_new w _), List.getElem?_toArray, List.getElem?_map]
      have hl : i < keyTab.length := hi12
      simp [List.getD, hl]
    go_enter Tryz.func23, Tryz.ntmps23
    go_wp2
    go_ret
    exact ⟨rfl, (Below.refl _ _).alloc (Nat.le_refl _) _⟩
end Go.Proofs.YtjibbnknliamkaaGreatDoor
namespace Go.Proofs.YtjibbnknliamkaaGreatDoor
open Go.RowKit
set_option linter.unusedVariables false
set_option linter.unusedSimpArgs false
theorem RdI.cellAt {L : List Int} {a : Option Addr} {n cap : Nat} {w w' : World} (h : RdI L (.slice a n cap) w) (hb : Below w.heap.size w w') {k : Nat} (hk : k < L.length) :
    n = L.length ∧ ∃ b off, a = some ⟨b, off, none⟩ ∧ b < w.heap.size ∧ w'.cell? ⟨b, off + k, none⟩ = some (.int .i64 (L.getD k 0)) := by
  obtain ⟨hy, a', cap', he, h1, h2, h3⟩ := h
  simp only [Value.slice.injEq] at he
  obtain ⟨rfl, rfl, rfl⟩ := he
  obtain ⟨b, off, rfl, hlt, hc⟩ := h3 (by omega)
  exact ⟨rfl, b, off, rfl, hlt, (hb.cell (p := ⟨b, off + k, none⟩) hlt).trans (hc k hk)⟩
set_option maxRecDepth 100000 in
theorem sameI_any (L : List Int) (v u : Value) (w : World) (hv : RdI L v w) (hu : RdI L u w) :
    Calls Tryz.prog 45 #[v, u] w fun e w' => e = .returned (.bool true) ∧ Below w.heap.size w w' := by
  obtain ⟨a, cap, rfl⟩ := hv.shape
  obtain ⟨a2, cap2, rfl⟩ := hu.shape
  have HV := Lib.hid hv
  have HU := Lib.hid hu
  have hl : (L.length : Int) ≤ 9223372036854775807 := by
    obtain ⟨_, _, _, _, h1, h2, _⟩ := hv
    unfold maxLen at h2
    omega
  clear hv hu
  go_enter Tryz.func45, Tryz.ntmps45
  go_wp2
  go_loopw [5] (fun i wr => ∃ k : Nat, k ≤ L.length ∧ i = .int .i64 (k : Int) ∧ Hid (Below w.heap.size w wr)) (fun i _ => L.length - (intOf i).toNat)
  case atStart => exact ⟨0, by omega, rfl, Lib.hid (Below.refl _ _)⟩
  case round =>
    obtain ⟨k, hk, rfl, HB⟩ := hrel
    by_cases hlt : k < L.length
    · obtain ⟨_, b, off, rfl, hb, hc⟩ := HV.out.cellAt HB.out hlt
      obtain ⟨_, b2, off2, rfl, hb2, hc2⟩ := HU.out.cellAt HB.out hlt
      have hki : (k : Int) < (L.length : Int) := by omega
      go_wp2
      go_quiet (fail)
      go_wp2
      go_roundw
      case rel => exact ⟨k + 1, by omega, by go_num, Lib.hid (below_drewN HB.out _)⟩
      case measure => simp [intOf]; omega
    · obtain rfl : k = L.length := by omega
      go_wp2
      go_ret
      exact ⟨rfl, HB.out⟩
end Go.Proofs.YtjibbnknliamkaaGreatDoor
namespace Go.Proofs.YtjibbnknliamkaaGreatDoor
open Go.RowKit
set_option linter.unusedVariables false
set_option linter.unusedSimpArgs false
set_option maxRecDepth 100000 in
theorem sameC_any (c : CM) (v u : Value) (w : World) (hv : RdC c v w) (hu : RdC c u w) :
    Calls Tryz.prog 122 #[v, u] w fun e w' => e = .returned (.bool true) ∧ Below w.heap.size w w' := by
  obtain ⟨D, S, x, L, s⟩ := c
  obtain ⟨a, n, cap, rfl, hR⟩ := hv
  obtain ⟨a2, n2, cap2, rfl, hR2⟩ := hu
  dsimp only at hR hR2 ⊢
  have hs := sameI_any L (.slice a n cap) (.slice a2 n2 cap2) ((w.alloc (.cells #[.int .i64 D, .int .i64 S, .int .u64 x, .slice a n cap, .bool s] 36)).alloc (.cells #[.int .i64 D, .int .i64 S, .int .u64 x, .slice a2 n2 cap2, .bool s] 36)) (hR.below (b2 _ _)) (hR2.below (b2 _ _))
  clear hR hR2
  go_enter Tryz.func122, Tryz.ntmps122
  go_wp2_with (go_at_call 45; refine hs.mono ?_; rintro e w2 ⟨rfl, hb2⟩; have B2 := Lib.hid (bgo (b2 _ _) hb2); clear hb2)
  go_ret
  exact ⟨rfl, B2.out⟩
end Go.Proofs.YtjibbnknliamkaaGreatDoor
