/- The contract of ranks' alone. -/
import Derived.Test.YtdifilhfmbpalaaDoorRkJ
import Derived.Test.YtdifilhfmbpalaaDoorPowR
import Derived.Test.YtdifilhfmbpalaaDoorSrtQ
import Derived.Test.YtdifilhfmbpalaaDoorRkM
import Derived.Deep.RegionLaw
namespace Go.Proofs.YtdifilhfmbpalaaDoor
open Go.RowKit
set_option linter.unusedVariables false
set_option linter.unusedSimpArgs false
/-- The greatest power of two in r. -/
def topP (r : Nat) : Nat := (pows r 63).getD ((pows r 63).length - 1) 0
/-- The levels of one item: the first j powers. -/
def midA (k : ByteArray) (r j : Nat) : List (List ByteArray) := (List.range (topP r + 1)).map fun i => if i ∈ (pows r 63).take j then [k] else []
def aloneL (k : ByteArray) (r : Nat) : List (List ByteArray) := (List.range (topP r + 1)).map fun i => if r.testBit i then [k] else []
theorem pows_iff {r i : Nat} : i ∈ pows r 63 ↔ i < 63 ∧ r.testBit i = true := by simp [pows]
theorem pows_lt41 {r i : Nat} (hr : r ≤ 1099511627776) (h : i ∈ pows r 63) : i ≤ 40 := by
  apply Nat.le_of_not_lt
  intro hi
  have h1 := Nat.ge_two_pow_of_testBit (pows_iff.1 h).2
  have h2 : 2 ^ 41 ≤ 2 ^ i := Nat.pow_le_pow_right (by decide) hi
  have h3 : (2 : Nat) ^ 41 = 2199023255552 := by decide
  omega
theorem pows_pos {r : Nat} (h0 : 0 < r) (h1 : r < 9223372036854775808) : 0 < (pows r 63).length := by
  apply Nat.pos_of_ne_zero
  intro h
  have he := List.eq_nil_of_length_eq_zero h
  have : r = 0 := by
    apply Nat.eq_of_testBit_eq
    intro i
    rw [Nat.zero_testBit]
    cases hb : r.testBit i with
    | false => rfl
    | true =>
      by_cases hi : i < 63
      · have hm : i ∈ pows r 63 := pows_iff.2 ⟨hi, hb⟩
        rw [he] at hm
        cases hm
      · have h1' := Nat.ge_two_pow_of_testBit hb
        have h2 : 2 ^ 63 ≤ 2 ^ i := Nat.pow_le_pow_right (by decide) (by omega)
        have h3 : (2 : Nat) ^ 63 = 9223372036854775808 := by decide
        omega
  omega
theorem topP_mem {r : Nat} (h0 : 0 < r) (h1 : r < 9223372036854775808) : topP r ∈ pows r 63 := by
  have := pows_pos h0 h1
  exact getD_mem (by omega)
theorem pows_inc (r c : Nat) : List.Pairwise (· < ·) (pows r c) := List.Pairwise.sublist List.filter_sublist List.pairwise_lt_range
theorem pows_le_top {r i : Nat} (h : i ∈ pows r 63) : i ≤ topP r := by
  obtain ⟨j, hj, rfl⟩ := List.getElem_of_mem h
  have hp := pows_inc r 63
  unfold topP
  rw [show (pows r 63).getD ((pows r 63).length - 1) 0 = (pows r 63)[(pows r 63).length - 1]'(by omega) by simp [List.getD, show (pows r 63).length - 1 < (pows r 63).length by omega]]
  by_cases hl : j = (pows r 63).length - 1
  · subst hl; exact Nat.le_refl _
  · exact Nat.le_of_lt (List.pairwise_iff_getElem.1 hp j _ hj (by omega) (by omega))
theorem midA_len (k : ByteArray) (r j : Nat) : (midA k r j).length = topP r + 1 := by simp [midA]
theorem aloneL_len (k : ByteArray) (r : Nat) : (aloneL k r).length = topP r + 1 := by simp [aloneL]
theorem midA_at (k : ByteArray) (r j i : Nat) (h : i ≤ topP r) : (midA k r j).getD i [] = if i ∈ (pows r 63).take j then [k] else [] := by
  simp only [midA, List.getD, List.getElem?_map, List.getElem?_range (show i < topP r + 1 by omega), Option.map_some, Option.getD_some]
theorem aloneL_at (k : ByteArray) (r i : Nat) (h : i ≤ topP r) : (aloneL k r).getD i [] = if r.testBit i then [k] else [] := by
  simp only [aloneL, List.getD, List.getElem?_map, List.getElem?_range (show i < topP r + 1 by omega), Option.map_some, Option.getD_some]
theorem midA_zero (k : ByteArray) (r : Nat) : midA k r 0 = List.replicate (topP r + 1) [] := by
  refine ext_getD (by simp [midA]) (fun i hi => ?_)
  rw [midA_len] at hi
  rw [midA_at k r 0 i (by omega), if_neg (by simp)]
  simp [List.getD, List.getElem?_replicate, hi]
theorem midA_all (k : ByteArray) (r : Nat) (h0 : 0 < r) (h1 : r ≤ 1099511627776) : midA k r (pows r 63).length = aloneL k r := by
  have ht := pows_lt41 h1 (topP_mem h0 (by omega))
  refine ext_getD (by rw [midA_len, aloneL_len]) (fun i hi => ?_)
  rw [midA_len] at hi
  rw [midA_at k r _ i (by omega), aloneL_at k r i (by omega), List.take_length]
  by_cases hb : r.testBit i = true
  · rw [if_pos hb, if_pos (pows_iff.2 ⟨by omega, hb⟩)]
  · rw [if_neg hb, if_neg (fun h => hb (pows_iff.1 h).2)]
theorem midA_set (k : ByteArray) (r j : Nat) (h : j < (pows r 63).length) : (midA k r j).set ((pows r 63).getD j 0) [k] = midA k r (j + 1) := by
  refine ext_getD (by rw [List.length_set, midA_len, midA_len]) (fun i hi => ?_)
  rw [List.length_set, midA_len] at hi
  rw [midA_at k r (j + 1) i (by omega)]
  have hi2 : i ≤ topP r := by omega
  have hm : ∀ x, x ∈ (pows r 63).take (j + 1) ↔ x ∈ (pows r 63).take j ∨ x = (pows r 63).getD j 0 := fun x => by rw [take_getD (d := 0) h]; simp
  by_cases he : (pows r 63).getD j 0 = i
  · rw [he, getD_set_eq (by rw [midA_len]; exact hi), if_pos ((hm i).2 (.inr he.symm))]
  · rw [getD_set_ne he, midA_at k r j i hi2]
    by_cases h2 : i ∈ (pows r 63).take j
    · rw [if_pos h2, if_pos ((hm i).2 (.inl h2))]
    · rw [if_neg h2, if_neg (fun h => ((hm i).1 h).elim h2 (fun e => he e.symm))]
theorem insN_bits (k : ByteArray) (r : Nat) : ∀ n, insN 0 ((List.range n).map fun i => if r.testBit i then [k] else []) = r % 2 ^ n
  | 0 => by simp [insN, Nat.mod_one]
  | n + 1 => by
    rw [List.range_succ, List.map_append, insN_app, insN_bits k r n]
    simp only [List.map_cons, List.map_nil, insN, List.length_map, List.length_range, Nat.zero_add, Nat.add_zero]
    have e : r % 2 ^ (n + 1) = r % 2 ^ n + 2 ^ n * (r / 2 ^ n % 2) := by rw [Nat.pow_succ, Nat.mod_mul]
    have hb := Nat.testBit_eq_decide_div_mod_eq (x := r) (i := n)
    rw [e]
    have h2 : r / 2 ^ n % 2 < 2 := Nat.mod_lt _ (by decide)
    cases ht : r.testBit n with
    | true => rw [ht] at hb; have : r / 2 ^ n % 2 = 1 := by simpa using hb.symm
              simp [this]
    | false => rw [ht] at hb; have : r / 2 ^ n % 2 = 0 := by have : ¬ r / 2 ^ n % 2 = 1 := by simpa using hb.symm
                                                             omega
               simp [this]
theorem aloneL_ins (k : ByteArray) (r : Nat) (h0 : 0 < r) (h1 : r ≤ 1099511627776) : insN 0 (aloneL k r) = r := by
  unfold aloneL
  rw [insN_bits]
  apply Nat.mod_eq_of_lt
  apply Nat.lt_of_not_le
  intro h
  obtain ⟨i, hi, hb⟩ := Nat.exists_ge_and_testBit_of_ge_two_pow h
  have h63 : i < 63 := by
    apply Nat.lt_of_not_le
    intro h'
    have h1' := Nat.ge_two_pow_of_testBit hb
    have h2 : 2 ^ 63 ≤ 2 ^ i := Nat.pow_le_pow_right (by decide) h'
    have h3 : (2 : Nat) ^ 63 = 9223372036854775808 := by decide
    omega
  have := pows_le_top (pows_iff.2 ⟨h63, hb⟩)
  omega
theorem aloneL_last (k : ByteArray) (r : Nat) (h0 : 0 < r) (h1 : r < 9223372036854775808) : lastE (aloneL k r) = false := by
  unfold lastE
  rw [aloneL_len, Nat.add_sub_cancel, aloneL_at k r _ (Nat.le_refl _), if_pos (pows_iff.1 (topP_mem h0 h1)).2]
  simp
theorem aloneL_key {k : ByteArray} {r : Nat} : ∀ l ∈ aloneL k r, ∀ x ∈ l, x = k := by
  intro l hl x hx
  obtain ⟨i, -, rfl⟩ := List.mem_map.1 hl
  split at hx
  · simpa using hx
  · cases hx
/-- The table of the least bits, laid by the program itself. -/
def TabP (w : World) : Prop := 0 < w.heap.size ∧ TabAt 0 Lib.deBruijn64tab w
theorem TabP.below {w w' : World} (h : TabP w) (hb : Below w.heap.size w w') : TabP w' := ⟨Nat.lt_of_lt_of_le h.1 hb.size, fun j hj => (hb.cell (by exact h.1)).trans (h.2 j hj)⟩
/-- The cell of an int that can be read. -/
theorem RdI.cellI {L : List Int} {a : Option Addr} {n cap : Nat} {w : World} (h : RdI L (.slice a n cap) w) {k : Nat} (hk : k < L.length) : ∃ b off, a = some ⟨b, off, none⟩ ∧ b < w.heap.size ∧ w.cell? ⟨b, off + k, none⟩ = some (.int .i64 (L.getD k 0)) := by
  obtain ⟨-, a', cap', he, h1, h2, h3⟩ := h
  simp only [Value.slice.injEq] at he
  obtain ⟨rfl, rfl, rfl⟩ := he
  obtain ⟨b, off, rfl, hb, hc⟩ := h3 (by omega)
  exact ⟨b, off, rfl, hb, hc k hk⟩
theorem OwnL.keep {B : Nat} {L : List (List ByteArray)} {us : List Value} {v : Value} {w w' : World} (h : OwnL B L us v w) (hk : ∀ g, B ≤ g → g < w.heap.size → w'.heap[g]? = w.heap[g]?) : OwnL B L us v w' :=
  ⟨h.1.keep (fun g hg e => hk g (h.1.lt e).1 hg), ⟨h.2.1.1, fun j hj => (h.2.1.2 j hj).keep (fun g hg e => hk g ((h.2.1.2 j hj).lt e).1 hg)⟩, h.2.2⟩
theorem JS.lt {W : World} {g N : Nat} {C : List (List ByteArray)} {us : List Value} {w : World} (h : JS W g N C us w) (hk : 0 < N) : g < w.heap.size := by
  have hl := h.1.len
  obtain ⟨g', he, -, -, hb, -⟩ := h.1.1.cells (by rw [hl, h.2.2]; omega)
  cases he
  exact hb
theorem OwnL.under {B b o : Nat} {L : List (List ByteArray)} {us : List Value} {v x : Value} {w : World} (h : OwnL B L us v w) (hb : b < B) : OwnL B L us v (w.setCell ⟨b, o, none⟩ x) :=
  h.keep (fun g hg _ => Below.heap_setCell _ ⟨b, o, none⟩ _ _ (fun e => by simp at e; omega))
set_option maxRecDepth 100000 in
set_option maxHeartbeats 4000000 in
theorem alone_any (k : ByteArray) (r : Nat) (S : Int) (w : World) (h0 : 0 < r) (h1 : r ≤ 1099511627776) (hT : TabP w) :
    Calls Tryd.prog 36 #[.agg #[.string k, .int .i64 (r : Int)], .int .i64 S] w fun e w' => ∃ us u, e = .returned (.agg #[.int .i64 S, .int .i64 (r : Int), .int .i64 0, u, .bool false]) ∧ OwnL w.heap.size (aloneL k r) us u w' ∧ Below w.heap.size w w' := by
  have HP : Hid (∀ w1, Below w.heap.size w w1 → Calls Tryd.prog 70 #[.int .i64 (r : Int)] w1 fun e w' => ∃ v, e = .returned v ∧ OwnI w1.heap.size ((pows r 63).map fun n : Nat => (n : Int)) v w' ∧ Below w1.heap.size w1 w') := Lib.hid (fun w1 hb => by
    have ht := hT.below hb
    refine (powers_any (r : Int) r w1 (by unfold nat0; omega) (by omega) (by omega) ht.1 ht.2).mono ?_
    rintro e w' ⟨v, rfl, hm, hb'⟩
    exact ⟨v, rfl, made_own hm (fun n hn => by have := (pows_iff.1 hn).1; omega), hb'⟩)
  have hlen := pows_pos h0 (show r < 9223372036854775808 by omega)
  have hle := pows_le r 63
  have htop := pows_lt41 h1 (topP_mem h0 (by omega))
  have HMEM : Hid (∀ j, j < (pows r 63).length → (pows r 63).getD j 0 ≤ topP r) := Lib.hid (fun j hj => pows_le_top (getD_mem hj))
  have HZ := Lib.hid (midA_zero k r)
  have HAL := Lib.hid (midA_all k r h0 h1)
  have HML := Lib.hid (fun j => midA_len k r j)
  have HST := Lib.hid (fun j h => midA_set k r j h)
  have HGD : Hid (∀ j, j < (pows r 63).length → ((pows r 63).map fun n : Nat => (n : Int)).getD j 0 = (((pows r 63).getD j 0 : Nat) : Int)) := Lib.hid (fun j hj => by simp [List.getD, hj])
  have HTD : Hid (topP r = (pows r 63).getD ((pows r 63).length - 1) 0) := Lib.hid rfl
  clear hT
  generalize topP r = T at *
  generalize hP : pows r 63 = P at *
  have HPP := Lib.hid hP
  clear hP
  obtain ⟨N, hN⟩ : ∃ N, N = P.length := ⟨_, rfl⟩
  rw [← hN] at hlen hle
  have HN := Lib.hid hN
  clear hN
  go_enter Tryd.func36, Tryd.ntmps36
  obtain ⟨M, rfl⟩ : ∃ M, N = M + 1 := ⟨N - 1, by omega⟩
  have HL : Hid ((P.map fun n : Nat => (n : Int)).length = M + 1) := Lib.hid (by rw [List.length_map, ← HN.out])
  have HM1 : Hid ((P.map fun n : Nat => (n : Int)).getD M 0 = (T : Int)) := Lib.hid (by rw [HGD.out M (by rw [← HN.out]; omega), HTD.out, ← HN.out, Nat.add_sub_cancel])
  have HQ : Hid (Value.int .i64 ((T : Int) + 1) = .int .i64 ((T + 1 : Nat) : Int)) := Lib.hid rfl
  go_wp2_with (first
    | (go_at_call 70; refine (HP.out _ (by first | exact b1 _ | exact b2 _ _ | exact b3 _ _ _)).mono ?_; rintro e W1 ⟨v, rfl, hm, hb'⟩;
       have hsz := hb'.size; have hcI := hb'.cell (p := ⟨w.heap.size, 0, none⟩) (by simp; omega); have hcI2 := hb'.cell (p := ⟨w.heap.size, 1, none⟩) (by simp; omega);
       have HB1 := Lib.hid (bgo (b2 _ _) hb'); have hrs := (RsS.new 0 0 0 (.slice none 0 0) false 28 (w.alloc (.cells #[.string k, .int .i64 (r : Int)] 32))).go hb'; rw [show (w.alloc (.cells #[.string k, .int .i64 (r : Int)] 32)).heap.size = w.heap.size + 1 by simp] at hrs; have HRS := Lib.hid hrs; clear hrs; obtain ⟨av, cv, rfl⟩ := hm.rd.shape; rw [HL.out]; have HRD := Lib.hid hm.rd; rw [HL.out] at HRD; obtain ⟨bv, ov, rfl, hbv, hcv⟩ := HRD.out.cellI (k := M) (by rw [HL.out]; omega); rw [HM1.out] at hcv; clear hm)
    | (at_make; (refine wp_makeV rfl _ _ rfl (T + 1) HQ.out HQ.out (by omega) ?_; intro w1 ho1 hb1 hs1; have J0 : Hid (JS W1 W1.heap.size (T + 1) (midA k r 0) (List.replicate (T + 1) nilS) w1) := Lib.hid ⟨by rw [HZ.out]; exact OwnL.made ho1, hb1, by rw [HML.out]⟩; clear ho1 hb1 hs1)))
  have hgl : w.heap.size + 1 < W1.heap.size := by simp at hsz; omega
  have hcK : W1.cell? ⟨w.heap.size, 0, none⟩ = some (.string k) := hcI.trans (by go_simp)
  have hcW : W1.cell? ⟨w.heap.size, 1, none⟩ = some (.int .i64 (r : Int)) := hcI2.trans (by go_simp)
  clear hcI hcI2
  go_loopw [8, 22] (fun _ i wr => ∃ (j : Nat) (us : List Value), j ≤ M + 1 ∧ i = .int .i64 (j : Int) ∧ Hid (JS W1 W1.heap.size (T + 1) (midA k r j) us wr)) (fun _ i _ => M + 1 - (intOf i).toNat)
  case atStart => exact ⟨0, _, by omega, rfl, J0⟩
  case round =>
    clear J0
    obtain ⟨j, us, hj, rfl, HJ⟩ := hrel
    by_cases hlt : j < M + 1
    · have hlt2 : (j : Int) < (M : Int) + 1 := by omega
      have hp : P.getD j 0 ≤ T := HMEM.out j (by rw [← HN.out]; exact hlt)
      obtain ⟨b, o, he, hb2, hcj⟩ := HRD.out.cellI (k := j) (by rw [HL.out]; exact hlt)
      cases he
      rw [HGD.out j (by rw [← HN.out]; exact hlt)] at hcj
      have hcj2 := ((bcell HJ.out.2.1).1 bv _ hb2).trans hcj
      have hck := ((bcell HJ.out.2.1).1 w.heap.size 0 (by omega)).trans hcK
      have HS := Lib.hid (HST.out j (by rw [← HN.out]; exact hlt))
      clear hcj
      generalize P.getD j 0 = q at *
      obtain ⟨hcq, hfq⟩ := HJ.out.cell (k := q) (by omega)
      have hgg := HJ.out.2.1.size
      have HX := Lib.hid (HJ.out.put (k := q) (by omega) (w' := wr.alloc (.cells #[.string k] 9)) ((OwnS.one k wr).mono hgg) ((b1 _).mono hgg) (Lone.of (b1 _)) (.inr rfl))
      have hlt3 := HJ.out.lt (by omega)
      have hca := ((bcell (b1 (a := wr) (.cells #[.string k] 9))).1 W1.heap.size q hlt3).trans hcq
      have hfa := ((bcell (b1 (a := wr) (.cells #[.string k] 9))).2 W1.heap.size q hlt3).trans hfq
      go_wp2
      go_roundw
      case rel => exact ⟨j + 1, _, by omega, by go_num, Lib.hid (by have h := HX.out; rw [HS.out, World.setCell_alloc_past _ _ _ _ hlt3] at h; exact h)⟩
      case measure => simp [intOf]; omega
    · obtain rfl : j = M + 1 := by omega
      have hnlt : ¬ ((M + 1 : Nat) : Int) < (M : Int) + 1 := by omega
      have hcw := ((bcell HJ.out.2.1).1 w.heap.size 1 (by omega)).trans hcW
      have hgg := HJ.out.2.1.size
      obtain ⟨⟨o0, o1, o2, o3, o4⟩, y0, y1, y2, y3, y4⟩ := HRS.out.go HJ.out.2.1
      have HJ2 := Lib.hid HJ.out
      rw [HN.out, HAL.out] at HJ2
      clear HJ
      go_wp2
      refine bodyPost_ret (v := .agg #[.int .i64 S, .int .i64 (r : Int), .int .i64 0, .slice (some ⟨W1.heap.size, 0, none⟩) (T + 1) (T + 1), .bool false]) (by simp [results, Tryd.results36, go_sem, *]) rfl ⟨us, _, rfl, ?_, ?_⟩
      · refine OwnL.mono (B := W1.heap.size) ?_ (by omega)
        have l3 : w.heap.size + 1 < W1.heap.size := hgl
        exact ((((HJ2.out.1.under l3).under l3).under l3).under l3).under l3
      · have l3 : w.heap.size ≤ w.heap.size + 1 := by omega
        have hb := bgo HB1.out HJ2.out.2.1
        exact bset (bset (bset (bset (bset hb _ _ _ l3) _ _ _ l3) _ _ _ l3) _ _ _ l3) _ _ _ l3
end Go.Proofs.YtdifilhfmbpalaaDoor
