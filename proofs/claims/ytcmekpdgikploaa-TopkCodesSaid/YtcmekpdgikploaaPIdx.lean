/- The contracts of topk's adder.add, entryOf, positions, indexOf, index.find; of the reference's sum. -/
import Derived.Test.YtcmekpdgikploaaPFind
import Derived.Test.YtcmekpdgikploaaRVal
import Derived.Test.YtcmekpdgikploaaSat
import Derived.Test.YtcmekpdgikploaaRefSat
namespace Go.Proofs.Ytcmekpdgikploaa
open Go.RowKit
set_option linter.unusedVariables false
set_option linter.unusedSimpArgs false
/-- A sum up to the greatest total, and whether it was cut off. -/
def tS (a b : Int) : Int := satN (nat0 a + nat0 b) 1099511627776
def tF (a b : Int) : Bool := satF (nat0 a + nat0 b) 1099511627776
theorem tS_bd (a b : Int) : 0 ≤ tS a b ∧ tS a b ≤ 1099511627776 := by unfold tS satN nat0; split <;> omega
theorem psat_any (a b : Int) (w : World) (a0 : -9223372036854775808 ≤ a) (a1 : a ≤ 9223372036854775807) (b0 : -9223372036854775808 ≤ b) (b1 : b ≤ 9223372036854775807) :
    Calls Try.prog 62 #[.int .i64 a, .int .i64 b, .int .i64 1099511627776] w fun e w' => e = .returned (.tuple #[.int .i64 (tS a b), .bool (tF a b)]) ∧ w = w' := add_any a b 1099511627776 w a0 a1 b0 b1 (by decide) (by decide)
set_option maxRecDepth 100000 in
theorem padd_any (a b : Int) (g : Nat) (s : Bool) (w : World) (a0 : -9223372036854775808 ≤ a) (a1 : a ≤ 9223372036854775807) (b0 : -9223372036854775808 ≤ b) (b1 : b ≤ 9223372036854775807) (hc : w.cell? ⟨g, 0, none⟩ = some (.bool s)) (hf : w.frozen? ⟨g, 0, none⟩ = false) :
    Calls Try.prog 32 #[.pointer (some ⟨g, 0, none⟩), .int .i64 a, .int .i64 b] w fun e w' => e = .returned (.int .i64 (tS a b)) ∧ w' = w.setCell ⟨g, 0, none⟩ (.bool (s || tF a b)) := by
  have h := fun w => psat_any a b w a0 a1 b0 b1
  generalize tS a b = A at *
  generalize tF a b = F at *
  cases s
  all_goals
    go_enter Try.func32, Try.ntmps32
    go_wp2_with (go_at_call 62; refine (h _).mono ?_; rintro e w' ⟨rfl, rfl⟩)
    go_ret
    exact ⟨rfl, rfl⟩
set_option maxRecDepth 100000 in
theorem rsum_any (a b : Int) (w : World) (a0 : -9223372036854775808 ≤ a) (a1 : a ≤ 9223372036854775807) (b0 : -9223372036854775808 ≤ b) (b1 : b ≤ 9223372036854775807) :
    Calls Try.prog 37 #[.int .i64 a, .int .i64 b] w fun e w' => e = .returned (.tuple #[.int .i64 (tS a b), .bool (tF a b)]) ∧ w = w' := by
  have h : ∀ w, Calls Try.prog 68 #[.int .i64 a, .int .i64 b, .int .i64 1099511627776] w fun e w' => e = .returned (.tuple #[.int .i64 (tS a b), .bool (tF a b)]) ∧ w = w' := fun w => ref_add_any a b 1099511627776 w a0 a1 b0 b1 (by decide) (by decide)
  generalize tS a b = A at *
  generalize tF a b = F at *
  go_enter Try.func37, Try.ntmps37
  go_wp2_with (go_at_call 68; refine (h _).mono ?_; rintro e w' ⟨rfl, rfl⟩)
  go_ret2
  exact ⟨rfl, rfl⟩
/-- An entry whose error stays below its count. -/
def entOf (k : ByteArray) (c e : Int) : Ent := ⟨k, c, min e (c - 1)⟩
theorem entOf_ok {k : ByteArray} {c e : Int} (hk : k.size ≤ maxLen) (c0 : -9223372036854775808 < c) (c1 : c ≤ 9223372036854775807) (e0 : -9223372036854775808 ≤ e) (e1 : e ≤ 9223372036854775807) : (entOf k c e).ok := ⟨hk, by unfold entOf; dsimp only; omega, by unfold entOf; dsimp only; omega⟩
set_option maxRecDepth 100000 in
theorem entOf_any (k : ByteArray) (c e : Int) (w : World) (c0 : -9223372036854775808 < c) (c1 : c ≤ 9223372036854775807) :
    Calls Try.prog 33 #[.string k, .int .i64 c, .int .i64 e] w fun r w' => r = .returned (.agg #[.string (entOf k c e).k, .int .i64 (entOf k c e).c, .int .i64 (entOf k c e).e]) ∧ Below w.heap.size w w' := by
  have q : wrap64 (c - 1) = c - 1 := by unfold wrap64; omega
  have q2 : IntKind.i64.wrap (c - 1) = c - 1 := by rw [IntKind.wrap_i64]; omega
  unfold entOf
  dsimp only
  go_enter Try.func33, Try.ntmps33
  go_wp2
  refine bodyPost_ret (v := .agg #[.string k, .int .i64 c, .int .i64 (min e (c - 1))]) (by simp [results, Try.results33, go_sem, *]) rfl ⟨rfl, ?_⟩
  exact b1 _
/-- The state of positions at entry j. -/
def PosS (W : World) (L : List Ent) (j : Nat) (w : World) : Prop := PosM L j W.heap.size w ∧ Below W.heap.size W w
theorem PosS.go {W : World} {L : List Ent} {j : Nat} {w w' : World} (h : PosS W L j w) (hb : Below w.heap.size w w') : PosS W L j w' := ⟨h.1.below hb, bgo h.2 hb⟩
set_option maxRecDepth 100000 in
set_option maxHeartbeats 1000000 in
theorem pos_any (L : List Ent) (a : Option Addr) (n cap : Nat) (w : World) (hr : RdE L (.slice a n cap) w) (hn : L.length ≤ 549755813888) :
    Calls Try.prog 31 #[.slice a n cap] w fun e w' => e = .returned (.map (some w.heap.size)) ∧ PosM L L.length w.heap.size w' ∧ Below w.heap.size w w' := by
  obtain ⟨a', cap', he⟩ := hr.shape
  simp only [Value.slice.injEq] at he
  obtain ⟨rfl, rfl, rfl⟩ := he
  have hy := hr.1
  have HR := Lib.hid hr
  clear hr
  have hmm := run_makeMapN (L.length : Int)
  have HS0 := Lib.hid (show PosS w L 0 (w.alloc (.map #[] 0)) from ⟨PosM.new L w, b1 _⟩)
  go_enter Try.func31, Try.ntmps31
  go_wp2
  clear hmm
  go_loopw [4, 5, 11] (fun _ _ i wr => ∃ j : Nat, j ≤ L.length ∧ i = .int .i64 (j : Int) ∧ Hid (PosS w L j wr)) (fun _ _ i _ => L.length - (intOf i).toNat)
  case atStart => exact ⟨0, by omega, rfl, HS0⟩
  case round =>
    clear HS0
    obtain ⟨j, hj, rfl, HI⟩ := hrel
    by_cases hlt : j < L.length
    · have hlt2 : (j : Int) < (L.length : Int) := by omega
      have hrt := (HR.out.below HI.out.2)
      obtain ⟨-, a1, cap1, he1, -, -, hc1⟩ := hrt
      simp only [Value.slice.injEq, true_and] at he1
      obtain ⟨rfl, rfl⟩ := he1
      obtain ⟨b, off, rfl, hb, hcell⟩ := hc1 (by omega)
      obtain ⟨c0, c1, c2⟩ := hcell j hlt
      clear hc1 hcell
      have hx := hy.at_ j
      have HX : Hid ((L.getD j Ent.z).k = (L.getD j Ent.z).k) := Lib.hid rfl
      obtain ⟨X, hX⟩ : ∃ X, X = L.getD j Ent.z := ⟨_, rfl⟩
      rw [← hX] at hx c0 c1 c2
      have HX := Lib.hid hX
      clear hX
      have HI3 := Lib.hid (HI.out.go (b1 (.cells #[.string X.k, .int .i64 X.c, .int .i64 X.e] 49)))
      have HK := Lib.hid hx.1
      go_wp2_with (at_mapUpdate; refine wp_pos_put rfl _ _ _ rfl L j w.heap.size X.k (by rw [← HX.out]) hlt rfl rfl rfl HI3.out.1 HK.out (by unfold maxLen; omega) ?_; intro w4 hs4 hg4)
      have I4 := Lib.hid (show PosS w L (j + 1) w4 from ⟨hs4, HI3.out.2.grown hg4 HI3.out.2.size (fun k hk => by cases hk; omega)⟩)
      clear hs4 hg4
      go_wp2
      exact ⟨⟨j + 1, by omega, by go_num, I4⟩, by simp [intOf]; omega⟩
    · obtain rfl : j = L.length := by omega
      go_wp2
      go_ret
      exact ⟨rfl, HI.out.1, HI.out.2⟩
theorem hasK_take (L : List Ent) (k : ByteArray) : hasK (L.take L.length) k = hasK L k := by rw [List.take_length]
/-- A key that has one entry alone. -/
def OneL (L : List Ent) : Prop := ∀ i, i < L.length → hasK (L.take i) (L.getD i Ent.z).k = false
theorem hasK_of {L : List Ent} {i j : Nat} {k : ByteArray} (hij : i < j) (hj : j ≤ L.length) (h : sameK (L.getD i Ent.z).k k = true) : hasK (L.take j) k = true := by
  unfold hasK
  rw [List.any_eq_true]
  have hi : i < L.length := by omega
  refine ⟨L.getD i Ent.z, ?_, h⟩
  have e : L.getD i Ent.z = L[i] := by simp [List.getD, hi]
  rw [e, List.mem_take_iff_getElem]
  exact ⟨i, by omega, rfl⟩
theorem OneL.inj {L : List Ent} (h : OneL L) {i j : Nat} {k : ByteArray} (hi : i < L.length) (hj : j < L.length) (h1 : sameK (L.getD i Ent.z).k k = true) (h2 : sameK (L.getD j Ent.z).k k = true) : i = j := by
  have e1 := (sameK_iff _ _).1 h1
  have e2 := (sameK_iff _ _).1 h2
  rcases Nat.lt_trichotomy i j with hlt | he | hlt
  · have := hasK_of hlt (Nat.le_of_lt hj) h1
    have h3 := h j hj
    rw [e2, this] at h3
    cases h3
  · exact he
  · have := hasK_of hlt (Nat.le_of_lt hi) h2
    have h3 := h i hi
    rw [e1, this] at h3
    cases h3
theorem PosOf.is {L : List Ent} {k : ByteArray} {c : Int} (h : PosOf L L.length k c) (ho : OneL L) (hk : hasK L k = true) : c = findI L k ∧ 0 ≤ c ∧ c < L.length := by
  rcases h with ⟨_, i, hi, hs, rfl⟩ | ⟨h, _⟩
  · rcases findI_cases L k with ⟨_, j, hj, e, hs2⟩ | ⟨h, _⟩
    · rw [e, ho.inj hi hj hs hs2]
      omega
    · rw [hk] at h
      cases h
  · rw [List.take_length, hk] at h
    cases h
/-- The entry of a key, or the bounds of a key without one. -/
def entAt (L : List Ent) (k : ByteArray) (l : Int) : Ent := if hasK L k = true then L.getD (findI L k).toNat Ent.z else ⟨k, l, l⟩
set_option maxRecDepth 100000 in
set_option maxHeartbeats 1000000 in
theorem find_any (L : List Ent) (k : ByteArray) (l : Int) (b : Nat) (a : Option Addr) (n cap : Nat) (w : World) (hr : RdE L (.slice a n cap) w) (hp : PosM L L.length b w) (ho : OneL L) (hk : k.size ≤ maxLen) (hn : L.length ≤ 549755813888) :
    Calls Try.prog 48 #[.agg #[.slice a n cap, .map (some b), .int .i64 l], .string k] w fun e w' =>
      e = .returned (.tuple #[.agg #[.string (entAt L k l).k, .int .i64 (entAt L k l).c, .int .i64 (entAt L k l).e], .bool (hasK L k)]) ∧ Below w.heap.size w w' := by
  obtain ⟨a', cap', he⟩ := hr.shape
  simp only [Value.slice.injEq] at he
  obtain ⟨rfl, rfl, rfl⟩ := he
  have HP := Lib.hid (hp.below (b2 (.cells #[.slice a L.length cap, .map (some b), .int .i64 l] 77) (.cells #[.string ⟨#[]⟩, .int .i64 0, .int .i64 0] 49)))
  have HR := Lib.hid (hr.below (b2 (.cells #[.slice a L.length cap, .map (some b), .int .i64 l] 77) (.cells #[.string ⟨#[]⟩, .int .i64 0, .int .i64 0] 49)))
  have HK := Lib.hid hk
  have hz := hasK_take L k
  clear hr hp hk
  unfold entAt
  cases hh : hasK L k with
  | true =>
    rw [if_pos rfl]
    have HO := Lib.hid (fun c (h : PosOf L L.length k c) => PosOf.is h ho hh)
    go_enter Try.func48, Try.ntmps48
    go_wp2_with (at_lookup; refine wp_pos_look rfl _ _ rfl L L.length b k rfl rfl HP.out HK.out ?_)
    try rw [hz]
    try rw [hh]
    intro c hc
    obtain ⟨hc1, hc2, hc3⟩ := HO.out c hc
    obtain ⟨i, rfl⟩ : ∃ i : Nat, c = (i : Int) := ⟨c.toNat, by omega⟩
    have hi : i < L.length := by omega
    obtain ⟨-, a1, cap1, he1, -, -, hcc⟩ := HR.out
    simp only [Value.slice.injEq, true_and] at he1
    obtain ⟨rfl, rfl⟩ := he1
    obtain ⟨b6, off6, rfl, hb6, hcell6⟩ := hcc (by omega)
    obtain ⟨c0, c1, c2⟩ := hcell6 i hi
    have hi2 : (i : Int) < (L.length : Int) := by omega
    have HE : Hid ((findI L k).toNat = i) := Lib.hid (by omega)
    clear hcell6 hcc hc hc1
    generalize hX : L.getD i Ent.z = X at *
    have HX := Lib.hid hX
    clear hX
    go_wp2
    refine bodyPost_ret (v := .tuple #[.agg #[.string X.k, .int .i64 X.c, .int .i64 X.e], .bool true]) (by simp [results, Try.results48, go_sem, *]) rfl ⟨by rw [HE.out, HX.out], ?_⟩
    exact b2 _ _
  | false =>
    rw [if_neg (by simp)]
    go_enter Try.func48, Try.ntmps48
    go_wp2_with (at_lookup; refine wp_pos_look rfl _ _ rfl L L.length b k rfl rfl HP.out HK.out ?_; rw [hz, hh]; intro c hc; clear hc)
    refine bodyPost_ret (v := .tuple #[.agg #[.string k, .int .i64 l, .int .i64 l], .bool false]) (by simp [results, Try.results48, go_sem, *]) rfl ⟨rfl, ?_⟩
    exact b2 _ _
end Go.Proofs.Ytcmekpdgikploaa
