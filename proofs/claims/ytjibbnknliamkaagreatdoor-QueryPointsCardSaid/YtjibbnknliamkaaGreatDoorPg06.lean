/- Same9, FqN, MerN: in one text. -/
import Derived.Test.YtjibbnknliamkaaGreatDoorPg05
namespace Go.Proofs.YtjibbnknliamkaaGreatDoor
open Go.RowKit
set_option linter.unusedVariables false
set_option linter.unusedSimpArgs false
def newT (S : Int) : TP := if S < 1 ∨ 32 < S then TP.none else ⟨S, 0, [], false⟩
def newTE (S : Int) : Int := if S < 1 ∨ 32 < S then 5 else 0
set_option maxRecDepth 100000 in
theorem pnew_any (S : Int) (w : World) (S0 : -9223372036854775808 ≤ S) (S1 : S ≤ 9223372036854775807) :
    Calls Tryz.prog 178 #[.int .i64 S] w fun e w' => ∃ v, e = .returned (.tuple #[v, .int .i64 (newTE S)]) ∧ OwnT w.heap.size (newT S) v w' ∧ Below w.heap.size w w' := by
  have hz := fun w => isz_any S w S0 S1
  unfold newT newTE
  by_cases hs : S < 1 ∨ 32 < S
  · rw [show (decide (1 ≤ S) && decide (S ≤ 32)) = false by rw [Bool.and_eq_false_iff]; simp; omega] at hz
    rw [if_pos hs, if_pos hs]
    clear hs
    go_enter Tryz.func178, Tryz.ntmps178
    go_wp2_with (go_at_call 142; refine (hz _).mono ?_; rintro e w' ⟨rfl, rfl⟩)
    refine bodyPost_ret (v := .tuple #[.agg #[.int .i64 0, .int .i64 0, .slice none 0 0, .bool false], .int .i64 5]) (by simp [results, Tryz.results178, go_sem, *]) rfl ⟨_, rfl, ⟨none, 0, 0, rfl, OwnE.empty _ _⟩, b1 _⟩
  · rw [show (decide (1 ≤ S) && decide (S ≤ 32)) = true by simp; omega] at hz
    rw [if_neg hs, if_neg hs]
    clear hs
    go_enter Tryz.func178, Tryz.ntmps178
    go_wp2_with (go_at_call 142; refine (hz _).mono ?_; rintro e w' ⟨rfl, rfl⟩)
    refine bodyPost_ret (v := .tuple #[.agg #[.int .i64 S, .int .i64 0, .slice none 0 0, .bool false], .int .i64 0]) (by simp [results, Tryz.results178, go_sem, *]) rfl ⟨_, rfl, ⟨none, 0, 0, rfl, OwnE.empty _ _⟩, b1 _⟩
set_option maxRecDepth 100000 in
theorem rnew_any (S : Int) (w : World) (S0 : -9223372036854775808 ≤ S) (S1 : S ≤ 9223372036854775807) :
    Calls Tryz.prog 51 #[.int .i64 S] w fun e w' => ∃ v, e = .returned (.tuple #[v, .int .i64 (newTE S)]) ∧ OwnT w.heap.size (newT S) v w' ∧ Below w.heap.size w w' := by
  have hz := fun w => within_any S 1 32 w
  unfold newT newTE
  by_cases hs : S < 1 ∨ 32 < S
  · rw [show (decide (1 ≤ S) && decide (S ≤ 32)) = false by rw [Bool.and_eq_false_iff]; simp; omega] at hz
    rw [if_pos hs, if_pos hs]
    clear hs
    go_enter Tryz.func51, Tryz.ntmps51
    go_wp2_with (go_at_call 87; refine (hz _).mono ?_; rintro e w' ⟨rfl, rfl⟩)
    refine bodyPost_ret (v := .tuple #[.agg #[.int .i64 0, .int .i64 0, .slice none 0 0, .bool false], .int .i64 5]) (by simp [results, Tryz.results51, go_sem, *]) rfl ⟨_, rfl, ⟨none, 0, 0, rfl, OwnE.empty _ _⟩, b1 _⟩
  · rw [show (decide (1 ≤ S) && decide (S ≤ 32)) = true by simp; omega] at hz
    rw [if_neg hs, if_neg hs]
    clear hs
    go_enter Tryz.func51, Tryz.ntmps51
    go_wp2_with (go_at_call 87; refine (hz _).mono ?_; rintro e w' ⟨rfl, rfl⟩)
    refine bodyPost_ret (v := .tuple #[.agg #[.int .i64 S, .int .i64 0, .slice none 0 0, .bool false], .int .i64 0]) (by simp [results, Tryz.results51, go_sem, *]) rfl ⟨_, rfl, ⟨none, 0, 0, rfl, OwnE.empty _ _⟩, b1 _⟩
set_option maxRecDepth 100000 in
set_option maxHeartbeats 1000000 in
theorem sameE_any (L : List Ent) (v u : Value) (w : World) (hv : RdE L v w) (hu : RdE L u w) (hn : L.length ≤ 549755813888) :
    Calls Tryz.prog 20 #[v, u] w fun e w' => e = .returned (.bool true) ∧ Below w.heap.size w w' := by
  obtain ⟨a, cap, rfl⟩ := hv.shape
  obtain ⟨a2, cap2, rfl⟩ := hu.shape
  have HR := Lib.hid hv
  have HU := Lib.hid hu
  clear hv hu
  go_enter Tryz.func20, Tryz.ntmps20
  go_wp2
  go_loopw [5] (fun i wr => ∃ j : Nat, j ≤ L.length ∧ i = .int .i64 (j : Int) ∧ Hid (Below w.heap.size w wr)) (fun i _ => L.length - (intOf i).toNat)
  case atStart => exact ⟨0, by omega, rfl, Lib.hid (Below.refl _ _)⟩
  case round =>
    obtain ⟨j, hj, rfl, HI⟩ := hrel
    by_cases hlt : j < L.length
    · have hlt2 : (j : Int) < (L.length : Int) := by omega
      obtain ⟨-, a1, cap1, he1, -, -, hc1⟩ := HR.out.below HI.out
      simp only [Value.slice.injEq, true_and] at he1
      obtain ⟨rfl, rfl⟩ := he1
      obtain ⟨b, off, rfl, hb, hcell⟩ := hc1 (by omega)
      obtain ⟨c0, c1, c2⟩ := hcell j hlt
      obtain ⟨-, a3, cap3, he3, -, -, hc3⟩ := HU.out.below HI.out
      simp only [Value.slice.injEq, true_and] at he3
      obtain ⟨rfl, rfl⟩ := he3
      obtain ⟨b3, off3, rfl, hb3, hcell3⟩ := hc3 (by omega)
      obtain ⟨d0, d1, d2⟩ := hcell3 j hlt
      clear hc1 hcell hc3 hcell3
      generalize L.getD j Ent.z = X at *
      go_wp2
      go_quiet (fail)
      go_wp2
      exact ⟨⟨j + 1, by omega, by go_num, Lib.hid (below_drewN HI.out _)⟩, by simp [intOf]; omega⟩
    · obtain rfl : j = L.length := by omega
      go_wp2
      go_ret
      exact ⟨rfl, HI.out⟩
set_option maxRecDepth 100000 in
theorem sameT_any (t : TP) (v u : Value) (w : World) (hv : RdT t v w) (hu : RdT t u w) (hn : t.L.length ≤ 549755813888) :
    Calls Tryz.prog 124 #[v, u] w fun e w' => e = .returned (.bool true) ∧ Below w.heap.size w w' := by
  obtain ⟨S, T, L, s⟩ := t
  obtain ⟨a, n, cap, rfl, hR⟩ := hv
  obtain ⟨a2, n2, cap2, rfl, hR2⟩ := hu
  dsimp only at hR hR2 hn ⊢
  have hs := Lib.hid (sameE_any L (.slice a n cap) (.slice a2 n2 cap2) ((w.alloc (.cells #[.int .i64 S, .int .i64 T, .slice a n cap, .bool s] 41)).alloc (.cells #[.int .i64 S, .int .i64 T, .slice a2 n2 cap2, .bool s] 41)) (hR.below (b2 _ _)) (hR2.below (b2 _ _)) hn)
  clear hR hR2
  go_enter Tryz.func124, Tryz.ntmps124
  go_wp2_with (go_at_call 20; refine hs.out.mono ?_; rintro e w2 ⟨rfl, hb2⟩; have B2 := Lib.hid (bgo (b2 _ _) hb2); clear hb2)
  go_ret
  exact ⟨rfl, B2.out⟩
end Go.Proofs.YtjibbnknliamkaaGreatDoor
namespace Go.Proofs.YtjibbnknliamkaaGreatDoor
open Go.RowKit
set_option linter.unusedVariables false
set_option linter.unusedSimpArgs false
structure FQ where
  S : Int
  T : Int
  K : Int
  L : List Ent
  s : Bool
def FQ.none : FQ := ⟨0, 0, 0, [], false⟩
def WfQ (t : FQ) : Prop := (-9223372036854775808 ≤ t.S ∧ t.S ≤ 9223372036854775807) ∧ (-9223372036854775808 ≤ t.T ∧ t.T ≤ 9223372036854775807) ∧ (-9223372036854775808 ≤ t.K ∧ t.K ≤ 9223372036854775807)
/-- A summary that can be read. -/
def RdQ (t : FQ) (v : Value) (w : World) : Prop := ∃ a n cap, v = .agg #[.int .i64 t.S, .int .i64 t.T, .int .i64 t.K, .slice a n cap, .bool t.s] ∧ RdE t.L (.slice a n cap) w
theorem RdQ.below {t : FQ} {v : Value} {w w' : World} (h : RdQ t v w) (hb : Below w.heap.size w w') : RdQ t v w' := by
  obtain ⟨a, n, cap, rfl, h⟩ := h
  exact ⟨a, n, cap, rfl, h.below hb⟩
/-- A summary of the call's own. -/
def OwnQ (B : Nat) (t : FQ) (v : Value) (w : World) : Prop := ∃ a n cap, v = .agg #[.int .i64 t.S, .int .i64 t.T, .int .i64 t.K, .slice a n cap, .bool t.s] ∧ OwnE B t.L (.slice a n cap) w
theorem OwnQ.rd {B : Nat} {t : FQ} {v : Value} {w : World} (h : OwnQ B t v w) : RdQ t v w := by
  obtain ⟨a, n, cap, rfl, h⟩ := h
  exact ⟨a, n, cap, rfl, h.rd⟩
theorem OwnQ.below {B : Nat} {t : FQ} {v : Value} {w w' : World} (h : OwnQ B t v w) (hb : Below w.heap.size w w') : OwnQ B t v w' := by
  obtain ⟨a, n, cap, rfl, h⟩ := h
  exact ⟨a, n, cap, rfl, h.below hb⟩
/-- A struct of five cells in memory: a summary. -/
def FqS (g : Nat) (S T K : Int) (v : Value) (s : Bool) (w : World) : Prop :=
  (w.cell? ⟨g, 0, none⟩ = some (.int .i64 S) ∧ w.cell? ⟨g, 1, none⟩ = some (.int .i64 T) ∧ w.cell? ⟨g, 2, none⟩ = some (.int .i64 K) ∧ w.cell? ⟨g, 3, none⟩ = some v ∧ w.cell? ⟨g, 4, none⟩ = some (.bool s)) ∧
    w.frozen? ⟨g, 0, none⟩ = false ∧ w.frozen? ⟨g, 1, none⟩ = false ∧ w.frozen? ⟨g, 2, none⟩ = false ∧ w.frozen? ⟨g, 3, none⟩ = false ∧ w.frozen? ⟨g, 4, none⟩ = false
theorem FqS.keep {g : Nat} {S T K : Int} {v : Value} {s : Bool} {w w' : World} (h : FqS g S T K v s w) (hb : w'.heap[g]? = w.heap[g]?) : FqS g S T K v s w' := by
  obtain ⟨⟨h0, h1, h2, h3, h4⟩, f0, f1, f2, f3, f4⟩ := h
  have hc : ∀ o, w'.cell? ⟨g, o, none⟩ = w.cell? ⟨g, o, none⟩ := fun o => World.cell?_of_block (w := w) (a := ⟨g, o, none⟩) hb
  have hf : ∀ o, w'.frozen? ⟨g, o, none⟩ = w.frozen? ⟨g, o, none⟩ := fun o => World.frozen?_of_block (w := w) (a := ⟨g, o, none⟩) hb
  exact ⟨⟨(hc _).trans h0, (hc _).trans h1, (hc _).trans h2, (hc _).trans h3, (hc _).trans h4⟩, (hf _).trans f0, (hf _).trans f1, (hf _).trans f2, (hf _).trans f3, (hf _).trans f4⟩
theorem FqS.below {g : Nat} {S T K : Int} {v : Value} {s : Bool} {w w' : World} (h : FqS g S T K v s w) {B : Nat} (hb : Below B w w') (hg : g < B) : FqS g S T K v s w' := h.keep (hb.block g hg)
theorem FqS.new (S T K : Int) (v : Value) (s : Bool) (t : TypeId) (w : World) : FqS w.heap.size S T K v s (w.alloc (.cells #[.int .i64 S, .int .i64 T, .int .i64 K, v, .bool s] t)) := by
  exact ⟨⟨by go_simp, by go_simp, by go_simp, by go_simp, by go_simp⟩, by go_simp, by go_simp, by go_simp, by go_simp, by go_simp⟩
theorem FqS.lt {g : Nat} {S T K : Int} {v : Value} {s : Bool} {w : World} (h : FqS g S T K v s w) : g < w.heap.size := by
  have h0 := h.1.1
  unfold World.cell? at h0
  cases hb : w.heap[g]? with
  | none => simp [hb] at h0
  | some o => exact (Array.getElem?_eq_some_iff.1 hb).1
theorem FqS.go {g : Nat} {S T K : Int} {v : Value} {s : Bool} {w w' : World} (h : FqS g S T K v s w) (hb : Below w.heap.size w w') : FqS g S T K v s w' := h.below hb h.lt
/-- What is wrong with an entry. -/
def entQ (x : Ent) : Int := if keyB (byt x.k) = false then 7 else if x.c < 1 ∨ 1099511627776 < x.c ∨ x.e ≠ 0 then 5 else 0
/-- What is wrong at position i. -/
def errQ (L : List Ent) (i : Nat) : Int :=
  if entQ (L.getD i Ent.z) ≠ 0 then entQ (L.getD i Ent.z) else if 0 < i ∧ lessK (L.getD (i - 1) Ent.z).k (L.getD i Ent.z).k = false then 19 else 0
/-- The first error among the m entries from i on. -/
def vgoQ (L : List Ent) : Nat → Nat → Int
  | 0, _ => 0
  | m + 1, i => if errQ L i ≠ 0 then errQ L i else vgoQ L m (i + 1)
def parQ (S T K : Int) : Bool := decide (1 ≤ S) && decide (S ≤ 32) && (decide (0 ≤ T) && decide (T ≤ 1099511627776)) && (decide (0 ≤ K) && decide (K ≤ 1099511627776))
def valQ (S T K : Int) (L : List Ent) : Int := if parQ S T K = false then 5 else if S < L.length then 11 else vgoQ L L.length 0
/-- What a valid summary is. -/
structure ValQ (S T K : Int) (L : List Ent) : Prop where
  s0 : 1 ≤ S
  s1 : S ≤ 32
  t0 : 0 ≤ T
  t1 : T ≤ 1099511627776
  k0 : 0 ≤ K
  k1 : K ≤ 1099511627776
  len : (L.length : Int) ≤ S
  ent : ∀ i, i < L.length → entQ (L.getD i Ent.z) = 0
  ord : ∀ i, i + 1 < L.length → lessK (L.getD i Ent.z).k (L.getD (i + 1) Ent.z).k = true
theorem errQ_zero {L : List Ent} {i : Nat} (h : errQ L i = 0) : entQ (L.getD i Ent.z) = 0 ∧ (0 < i → lessK (L.getD (i - 1) Ent.z).k (L.getD i Ent.z).k = true) := by
  unfold errQ at h
  by_cases h1 : entQ (L.getD i Ent.z) = 0
  · rw [if_neg (by simpa using h1)] at h
    by_cases h3 : 0 < i ∧ lessK (L.getD (i - 1) Ent.z).k (L.getD i Ent.z).k = false
    · rw [if_pos h3] at h
      cases h
    · refine ⟨h1, fun h4 => ?_⟩
      cases hb : lessK (L.getD (i - 1) Ent.z).k (L.getD i Ent.z).k with
      | true => rfl
      | false => exact absurd ⟨h4, hb⟩ h3
  · rw [if_pos h1] at h
    exact absurd h h1
theorem vgoQ_zero (L : List Ent) : ∀ m i, vgoQ L m i = 0 → ∀ j, i ≤ j → j < i + m → errQ L j = 0
  | 0, i, _, j, h1, h2 => by omega
  | m + 1, i, h, j, h1, h2 => by
    unfold vgoQ at h
    by_cases he : errQ L i = 0
    · rw [if_neg (by simpa using he)] at h
      by_cases hj : j = i
      · subst hj; exact he
      · exact vgoQ_zero L m (i + 1) h j (by omega) (by omega)
    · rw [if_pos he] at h
      exact absurd h he
theorem parQ_iff (S T K : Int) : parQ S T K = true ↔ 1 ≤ S ∧ S ≤ 32 ∧ 0 ≤ T ∧ T ≤ 1099511627776 ∧ 0 ≤ K ∧ K ≤ 1099511627776 := by
  unfold parQ
  simp [and_assoc]
theorem valQ_ok {S T K : Int} {L : List Ent} (h : valQ S T K L = 0) : ValQ S T K L := by
  unfold valQ at h
  cases hp : parQ S T K with
  | false => rw [hp, if_pos rfl] at h; cases h
  | true =>
    rw [hp, if_neg (by simp)] at h
    obtain ⟨p1, p2, p3, p4, p5, p6⟩ := (parQ_iff S T K).1 hp
    by_cases h2 : S < L.length
    · rw [if_pos h2] at h
      cases h
    · rw [if_neg h2] at h
      have h3 := vgoQ_zero L _ _ h
      refine ⟨p1, p2, p3, p4, p5, p6, by omega, fun i hi => (errQ_zero (h3 i (by omega) (by omega))).1, fun i hi => ?_⟩
      have := (errQ_zero (h3 (i + 1) (by omega) (by omega))).2 (by omega)
      simpa using this
theorem vgoQ_all {L : List Ent} (m i : Nat) (h : ∀ j, i ≤ j → j < i + m → errQ L j = 0) : vgoQ L m i = 0 := by
  induction m generalizing i with
  | zero => rfl
  | succ m ih =>
    unfold vgoQ
    rw [if_neg (by simpa using h i (Nat.le_refl _) (by omega))]
    exact ih (i + 1) (fun j h1 h2 => h j (by omega) (by omega))
theorem valQ_of {S T K : Int} {L : List Ent} (h : ValQ S T K L) : valQ S T K L = 0 := by
  obtain ⟨s0, s1, t0, t1, k0, k1, l, e, r⟩ := h
  unfold valQ
  rw [(parQ_iff S T K).2 ⟨s0, s1, t0, t1, k0, k1⟩, if_neg (by simp), if_neg (by omega)]
  refine vgoQ_all _ _ (fun j _ hj => ?_)
  unfold errQ
  rw [if_neg (by simpa using e j (by omega)), if_neg]
  rintro ⟨h0, h1⟩
  have := r (j - 1) (by omega)
  rw [show j - 1 + 1 = j by omega, h1] at this
  cases this
theorem ValQ.small {S T K : Int} {L : List Ent} (h : ValQ S T K L) : L.length ≤ 32 := by have := h.len; have := h.s1; omega
theorem entQ_zero {x : Ent} (h : entQ x = 0) : keyB (byt x.k) = true ∧ 1 ≤ x.c ∧ x.c ≤ 1099511627776 ∧ x.e = 0 := by
  unfold entQ at h
  cases hk : keyB (byt x.k) with
  | false => rw [hk, if_pos rfl] at h; cases h
  | true =>
    rw [hk, if_neg (by simp)] at h
    by_cases hb : x.c < 1 ∨ 1099511627776 < x.c ∨ x.e ≠ 0
    · rw [if_pos hb] at h; cases h
    · exact ⟨rfl, by omega, by omega, by omega⟩
theorem entQ_of {x : Ent} (hk : keyB (byt x.k) = true) (h1 : 1 ≤ x.c) (h2 : x.c ≤ 1099511627776) (h3 : x.e = 0) : entQ x = 0 := by
  unfold entQ
  rw [hk, if_neg (by simp), if_neg (by omega)]
end Go.Proofs.YtjibbnknliamkaaGreatDoor
namespace Go.Proofs.YtjibbnknliamkaaGreatDoor
open Go.RowKit
set_option linter.unusedVariables false
set_option linter.unusedSimpArgs false
/-- An entry of a list without repetition is found by its key. -/
theorem entAt_self {L : List Ent} (ho : OneL L) {i : Nat} (hi : i < L.length) (l : Int) : entAt L (L.getD i Ent.z).k l = L.getD i Ent.z := by
  unfold entAt
  rcases findI_cases L (L.getD i Ent.z).k with ⟨h, j, hj, e, hs⟩ | ⟨h, _⟩
  · rw [if_pos h, e, Int.toNat_natCast, ho.inj hj hi hs (sameK_self _)]
  · have := hasK_of (L := L) (j := L.length) hi (Nat.le_refl _) (sameK_self (L.getD i Ent.z).k)
    rw [List.take_length, h] at this
    cases this
theorem hasK_app (L M : List Ent) (k : ByteArray) : hasK (L ++ M) k = (hasK L k || hasK M k) := by simp [hasK]
end Go.Proofs.YtjibbnknliamkaaGreatDoor
