/- The contract of ranks' settle. -/
import Derived.Test.YtdifilhfmbpalaaDoorRkH
import Derived.ScopeJumps
import Derived.WalkMore
namespace Go.Proofs.YtdifilhfmbpalaaDoor
open Go.RowKit
set_option linter.unusedVariables false
set_option linter.unusedSimpArgs false
theorem sortK_idem (l : List ByteArray) : sortK (sortK l) = sortK l := asc_uniq (sortK_sorted _) (sortK_sorted _) (sortK_perm _)
theorem stl_sort {S : Int} (C : List Int) (i : Nat) (l : List ByteArray) (L : List (List ByteArray)) (K a : Int) (h2 : 2 ≤ S) : stl S C i (sortK l :: L) K a = stl S C i (l :: L) K a := by
  rcases Int.lt_or_le (l.length : Int) S with h | h
  · rw [stl_low C i L K a h, stl_low C i L K a (by rw [sortK_len]; exact h), sortK_idem]
  · rw [stl_full C i L K a h h2, stl_full C i L K a (by rw [sortK_len]; exact h) h2, sortK_idem]
/-- An empty level behind a full one changes nothing. -/
theorem stl_grow {S : Int} (C : List Int) (i : Nat) (l : List ByteArray) (K a : Int) (h : S ≤ (l.length : Int)) (h2 : 2 ≤ S) : stl S C i [l, []] K a = stl S C i [l] K a := by
  rw [stl_full C i _ K a h h2, stl_full C i _ K a h h2]
  have hp := pick_len (bitI C a).toNat (sortK l)
  rw [sortK_len] at hp
  have e : addC [[]] (pick (bitI C a).toNat (sortK l)) = addC [] (pick (bitI C a).toNat (sortK l)) := by
    cases hc : pick (bitI C a).toNat (sortK l) with
    | nil => rw [hc] at hp; simp at hp; omega
    | cons x c => simp [addC]
  rw [e]
theorem insN_set {L : List (List ByteArray)} {j : Nat} {M : List ByteArray} (hj : j < L.length) (hm : M.length = (L.getD j []).length) : ∀ i, insN i (L.set j M) = insN i L := by
  induction L generalizing j with
  | nil => simp at hj
  | cons l L ih =>
    intro i
    cases j with
    | zero => simp only [List.set_cons_zero, insN]; rw [hm]; simp
    | succ j =>
      simp only [List.set_cons_succ, insN]
      rw [ih (by simpa using hj) (by simpa using hm)]
theorem insN_row {L : List (List ByteArray)} {j : Nat} (hj : j < L.length) : ∀ i, (L.getD j []).length * 2 ^ (i + j) ≤ insN i L := by
  induction L generalizing j with
  | nil => simp at hj
  | cons l L ih =>
    intro i
    cases j with
    | zero => simp [insN]
    | succ j =>
      have := ih (j := j) (by simpa using hj) (i + 1)
      simp only [insN, List.getD_cons_succ]
      rw [show i + (j + 1) = i + 1 + j by omega]
      omega
theorem insN_snoc (L : List (List ByteArray)) (i : Nat) : insN i (L ++ [[]]) = insN i L := by rw [insN_app]; simp [insN]
/-- A full level lies low. -/
theorem full_low {L : List (List ByteArray)} {j : Nat} (hj : j < L.length) (h2 : 2 ≤ (L.getD j []).length) (h : insN 0 L ≤ 1099511627776) : j ≤ 39 := by
  apply Nat.le_of_not_lt
  intro hlt
  have h1 := insN_row hj 0
  rw [Nat.zero_add] at h1
  have h3 : 2 ^ 40 ≤ 2 ^ j := Nat.pow_le_pow_right (by decide) hlt
  have h4 : 2 * 2 ^ j ≤ (L.getD j []).length * 2 ^ j := Nat.mul_le_mul_right _ h2
  have h5 : (2 : Nat) ^ 40 = 1099511627776 := by decide
  omega
/-- What holds of levels that are settled up to level i. -/
structure TS (W : World) (gf : Nat) (vc : Value) (Z : List Int) (S a K : Int) (C : List (List ByteArray)) (i g c : Nat) (D : List (List ByteArray)) (us : List Value) (K' a' : Int) (w : World) : Prop where
  hs : HS W gf vc a' K' g c D us w
  il : i ≤ D.length
  eq : stl S Z 0 C K a = (D.take i ++ (stl S Z i (D.drop i) K' a').1, (stl S Z i (D.drop i) K' a').2)
  ins : insN 0 D ≤ 1099511627776
  len : D.length ≤ 41
  bd : ∀ j, i ≤ j → (D.getD j []).length ≤ if j = i then 124 else 62
  a0 : 0 ≤ a'
  a1 : a' ≤ 1073741824 + i
  k0 : 0 ≤ K'
  k1 : K' ≤ 1099511627776
section
variable {W : World} {gf : Nat} {vc : Value} {Z : List Int} {S a K : Int} {C : List (List ByteArray)} {i g c : Nat} {D : List (List ByteArray)} {us : List Value} {K' a' : Int} {w w' : World}
theorem HS.sorted (h : HS W gf vc a K g c C us w) {j : Nat} (hj : j < C.length) {M : List ByteArray} (ho : OwnS W.heap.size M (us.getD j nilS) w') (hl : Lone (us.getD j nilS) w w') (hb : Below W.heap.size w w') : HS W gf vc a K g c (C.set j M) us w' :=
  ⟨h.fl.lone (h.row hj) hl, by rw [List.length_set]; exact h.own.inPlace hj ho hl, h.bel.trans hb, h.ge⟩
theorem HS.snoc {g' c' : Nat} (h : HS W gf vc a K g c C us w) (hv : OwnV W.heap.size (us ++ [nilS]) (.slice (some ⟨g', 0, none⟩) (C.length + 1) c') w') (hl : Lone (.slice (some ⟨g, 0, none⟩) C.length c) w w') (hb : Below W.heap.size w w') : HS W gf vc a K g' c' (C ++ [[]]) (us ++ [nilS]) w' :=
  ⟨row_lone h.fl h.own.1.2 (by decide) hl, by rw [List.length_append, List.length_singleton]; exact h.own.snoc hv hl (OwnS.empty _ _) (fun i hi k hk e => by cases e), h.bel.trans hb, h.ge⟩
theorem TS.start (h : HS W gf vc a K g c C us w) (hi : insN 0 C ≤ 1099511627776) (hn : ∀ l ∈ C, l.length ≤ 62) (hl : C.length ≤ 41) (ha0 : 0 ≤ a) (ha1 : a ≤ 1073741824) (k0 : 0 ≤ K) (k1 : K ≤ 1099511627776) : TS W gf vc Z S a K C 0 g c C us K a w := by
  refine ⟨h, Nat.zero_le _, by simp, hi, hl, fun j _ => ?_, ha0, by omega, k0, k1⟩
  have h62 : (C.getD j []).length ≤ 62 := by
    by_cases hj : j < C.length
    · exact hn _ (getD_mem hj)
    · simp [List.getD, List.getElem?_eq_none (Nat.le_of_not_lt hj)]
  split <;> omega
theorem TS.sorted (h : TS W gf vc Z S a K C i g c D us K' a' w) (s0 : 2 ≤ S) (hi : i < D.length) (hs : HS W gf vc a' K' g c (D.set i (sortK (D.getD i []))) us w') : TS W gf vc Z S a K C i g c (D.set i (sortK (D.getD i []))) us K' a' w' := by
  refine ⟨hs, by rw [List.length_set]; exact h.il, ?_, ?_, by rw [List.length_set]; exact h.len, fun j hj => ?_, h.a0, h.a1, h.k0, h.k1⟩
  · rw [h.eq, List.take_set_of_le (Nat.le_refl _), drop_getD (d := []) (show i < (D.set i (sortK (D.getD i []))).length by rw [List.length_set]; exact hi), getD_set_eq hi, List.drop_set_of_lt (by omega), stl_sort _ _ _ _ _ _ s0, ← drop_getD hi]
  · rw [insN_set hi (sortK_len _)]; exact h.ins
  · by_cases hij : i = j
    · subst hij; rw [getD_set_eq hi, sortK_len]; exact h.bd i hj
    · rw [getD_set_ne hij]; exact h.bd j hj
theorem TS.low (h : TS W gf vc Z S a K C i g c D us K' a' w) (hi : i < D.length) (hl : ((D.getD i []).length : Int) < S) (hq : sortK (D.getD i []) = D.getD i []) : TS W gf vc Z S a K C (i + 1) g c D us K' a' w := by
  refine ⟨h.hs, hi, ?_, h.ins, h.len, fun j hj => ?_, h.a0, by have := h.a1; omega, h.k0, h.k1⟩
  · rw [h.eq, drop_getD (d := []) hi, stl_low _ _ _ _ _ hl, take_getD (d := []) hi, hq]
    simp
  · have := h.bd j (by omega)
    rw [if_neg (by omega)] at this
    split <;> omega
theorem TS.grow {g' c' : Nat} {us' : List Value} (h : TS W gf vc Z S a K C i g c D us K' a' w) (s0 : 2 ≤ S) (hi : i + 1 = D.length) (hl : S ≤ ((D.getD i []).length : Int)) (hs : HS W gf vc a' K' g' c' (D ++ [[]]) us' w') : TS W gf vc Z S a K C i g' c' (D ++ [[]]) us' K' a' w' := by
  have h39 := full_low (L := D) (j := i) (by omega) (by omega) h.ins
  have hlen : (D ++ [[]]).length = D.length + 1 := by simp
  refine ⟨hs, by omega, ?_, by rw [insN_snoc]; exact h.ins, by omega, fun j hj => ?_, h.a0, h.a1, h.k0, h.k1⟩
  · have e1 : D.drop i = [D.getD i []] := by rw [drop_getD (d := []) (by omega), List.drop_eq_nil_of_le (by omega)]
    have e2 : (D ++ [[]]).drop i = [D.getD i [], []] := by rw [List.drop_append_of_le_length (by omega), e1]; rfl
    rw [h.eq, e1, e2, stl_grow _ _ _ _ _ hl s0, List.take_append_of_le_length (by omega)]
  · by_cases hj2 : j < D.length
    · rw [getD_snoc, if_pos hj2]; exact h.bd j hj
    · have : ((D ++ [[]]).getD j []).length = 0 := by
        rw [getD_snoc, if_neg hj2]
        split <;> rfl
      omega
theorem TS.full {us' : List Value} (h : TS W gf vc Z S a K C i g c D us K' a' w) (s0 : 2 ≤ S) (hi : i + 1 < D.length) (hl : S ≤ ((D.getD i []).length : Int)) (hq : sortK (D.getD i []) = D.getD i [])
    (hs : HS W gf vc (a' + 1) (aS K' (2 ^ i)) g c ((D.set (i + 1) (D.getD (i + 1) [] ++ pick (bitI Z a').toNat (D.getD i []))).set i (rst (D.getD i []))) us' w') :
    TS W gf vc Z S a K C (i + 1) g c ((D.set (i + 1) (D.getD (i + 1) [] ++ pick (bitI Z a').toNat (D.getD i []))).set i (rst (D.getD i []))) us' (aS K' (2 ^ i)) (a' + 1) w' := by
  have hb1 := h.bd i (Nat.le_refl _)
  have hb2 := h.bd (i + 1) (by omega)
  rw [if_pos rfl] at hb1
  rw [if_neg (by omega)] at hb2
  have hpl := pick_len (bitI Z a').toNat (D.getD i [])
  have hD : D.drop i = D.getD i [] :: D.getD (i + 1) [] :: D.drop (i + 2) := by rw [drop_getD (d := []) (show i < D.length by omega), drop_getD (d := []) hi]
  have hE : D.take i ++ (D.getD i [] :: D.getD (i + 1) [] :: D.drop (i + 2)) = D := by rw [← hD, List.take_append_drop]
  obtain ⟨l, hl'⟩ : ∃ l, D.getD i [] = l := ⟨_, rfl⟩
  obtain ⟨m, hm'⟩ : ∃ m, D.getD (i + 1) [] = m := ⟨_, rfl⟩
  have hN : (D.set (i + 1) (m ++ pick (bitI Z a').toNat l)).set i (rst l) = D.take i ++ (rst l :: (m ++ pick (bitI Z a').toNat l) :: D.drop (i + 2)) := by
    have ht : (D.take i).length = i := by rw [List.length_take]; omega
    conv => lhs; rw [← hE]
    rw [hl', hm', List.set_append_right _ _ (by omega), List.set_append_right _ _ (by omega), ht, Nat.sub_self, show i + 1 - i = 1 by omega]
    rfl
  rw [hl', hm'] at hs hD hE
  rw [hl'] at hl hq hpl hb1
  rw [hm'] at hb2
  rw [hl', hm']
  have ht : (D.take i).length = i := by rw [List.length_take]; omega
  have hlenN : ((D.set (i + 1) (m ++ pick (bitI Z a').toNat l)).set i (rst l)).length = D.length := by rw [List.length_set, List.length_set]
  refine ⟨hs, by omega, ?_, ?_, by rw [hlenN]; exact h.len, fun j hj => ?_, by have := h.a0; omega, by have := h.a1; omega, (aS_bd _ _).1, (aS_bd _ _).2⟩
  · rw [h.eq, hD, stl_full _ _ _ _ _ hl s0, hN, hq]
    have e1 : (D.take i ++ (rst l :: (m ++ pick (bitI Z a').toNat l) :: D.drop (i + 2))).take (i + 1) = D.take i ++ [rst l] := by
      rw [List.take_append, ht, List.take_of_length_le (by omega), show i + 1 - i = 1 by omega]
      rfl
    have e2 : (D.take i ++ (rst l :: (m ++ pick (bitI Z a').toNat l) :: D.drop (i + 2))).drop (i + 1) = (m ++ pick (bitI Z a').toNat l) :: D.drop (i + 2) := by
      rw [List.drop_append, ht, List.drop_eq_nil_of_le (by omega), show i + 1 - i = 1 by omega]
      rfl
    rw [e1, e2]
    simp [addC]
  · rw [hN]
    have h0 := h.ins
    rw [← hE, insN_app, ht, Nat.zero_add] at h0
    rw [insN_app, ht, Nat.zero_add]
    simp only [insN, List.length_append, rst_len, hpl] at h0 ⊢
    have := half_sum l.length i
    rw [Nat.add_mul]
    omega
  · rw [hN]
    by_cases hj1 : j = i + 1
    · subst hj1
      rw [if_pos rfl]
      have e : (D.take i ++ (rst l :: (m ++ pick (bitI Z a').toNat l) :: D.drop (i + 2))).getD (i + 1) [] = m ++ pick (bitI Z a').toNat l := by
        simp only [List.getD]
        rw [List.getElem?_append_right (by omega), ht, show i + 1 - i = 1 by omega]
        rfl
      rw [e, List.length_append, hpl]
      omega
    · rw [if_neg hj1, ← hN, getD_set_ne (by omega), getD_set_ne (by omega)]
      have := h.bd j (by omega)
      rw [if_neg (by omega)] at this
      exact this
end
/-- What holds at each jump. -/
def JT (W : World) (gf : Nat) (vc : Value) (Z : List Int) (S a K : Int) (C : List (List ByteArray)) (a' : Act) (w' : World) : Prop :=
  ∃ (i g1 c1 N : Nat) (D : List (List ByteArray)) (us1 : List Value) (K1 a1 : Int) (u8 u9 u10 u11 u12 u13 u14 u15 u16 u17 u18 u19 u20 u21 u22 u23 u24 u25 u26 u27 u28 u29 u30 u31 u32 u33 u34 u35 u36 u37 u38 u39 : Value), a' = { tmps := #[.pointer (some ⟨gf, 0, none⟩), .slice (some ⟨g1, 0, none⟩) N c1, .int .i64 S, undef, undef, undef, .slice none 0 0, .int .i64 (i : Int), u8, u9, u10, u11, u12, u13, u14, u15, u16, u17, u18, u19, u20, u21, u22, u23, u24, u25, u26, u27, u28, u29, u30, u31, u32, u33, u34, u35, u36, u37, u38, u39], defers := [] } ∧ D.length = N ∧ Hid (TS W gf vc Z S a K C i g1 c1 D us1 K1 a1 w')
def lenOf : Value → Nat
  | .slice _ n _ => n
  | _ => 0
set_option maxRecDepth 100000 in
set_option maxHeartbeats 4000000 in
theorem settle_any (W : World) (gf : Nat) (vc : Value) (Z : List Int) (S a K : Int) (g c : Nat) (C : List (List ByteArray)) (us : List Value) (w : World)
    (h : HS W gf vc a K g c C us w) (hZ : Rd Z vc W) (s0 : 2 ≤ S) (s1 : S ≤ 32) (ha0 : 0 ≤ a) (ha1 : a ≤ 1073741824) (k0 : 0 ≤ K) (k1 : K ≤ 1099511627776) (hi : insN 0 C ≤ 1099511627776) (hn : ∀ l ∈ C, l.length ≤ 62) (hl : C.length ≤ 41) :
    Calls Tryd.prog 69 #[.pointer (some ⟨gf, 0, none⟩), .slice (some ⟨g, 0, none⟩) C.length c, .int .i64 S] w fun e w' =>
      ∃ g' c' us', e = .returned (.slice (some ⟨g', 0, none⟩) (stl S Z 0 C K a).1.length c') ∧ HS W gf vc (stl S Z 0 C K a).2.2 (stl S Z 0 C K a).2.1 g' c' (stl S Z 0 C K a).1 us' w' := by
  have T0 := Lib.hid (TS.start (Z := Z) (S := S) h hi hn hl ha0 ha1 k0 k1)
  have HZ := Lib.hid hZ
  clear h hi hn hZ k0 k1 ha0 ha1
  go_enter Tryd.func69, Tryd.ntmps69
  go_wp2
  refine wp_scope_jumps 0 (JT W gf vc Z S a K C) (fun a' _ => 50 - lenOf (a'.tmps.getD 1 undef)) rfl ?_ ?_
  · go_wp2
    go_step3
    obtain ⟨N, hNC⟩ : ∃ N, C.length = N := ⟨_, rfl⟩
    rw [hNC]
    go_wp2
    go_loopw [1, 7] (fun lv iv wr => ∃ (i : Nat) (D1 : List (List ByteArray)) (us1 : List Value) (K1 a1 : Int), lv = .slice (some ⟨g, 0, none⟩) N c ∧ iv = .int .i64 (i : Int) ∧ D1.length = N ∧ Hid (TS W gf vc Z S a K C i g c D1 us1 K1 a1 wr)) (fun _ iv _ => N - (intOf iv).toNat)
    case atStart => exact ⟨0, C, us, K, a, rfl, rfl, hNC, T0⟩
    case round =>
      obtain ⟨i, D1, us1, K1, a1, rfl, rfl, hN, HT⟩ := hrel
      have h41 : N ≤ 41 := by rw [← hN]; exact HT.out.len
      have hile : i ≤ N := by rw [← hN]; exact HT.out.il
      by_cases hlt : i < N
      · have hlt2 : (i : Int) < (N : Int) := by omega
        have hiD : i < D1.length := by rw [hN]; exact hlt
        obtain ⟨-, hgl, hc1, hf1⟩ := HT.out.hs.cell (k := i) hiD
        have hrow := HT.out.hs.row (k := i) hiD
        obtain ⟨l, hl⟩ : ∃ l, D1.getD i [] = l := ⟨_, rfl⟩
        obtain ⟨U, hU⟩ : ∃ U, us1.getD i nilS = U := ⟨_, rfl⟩
        have hbl := HT.out.bd i (Nat.le_refl _)
        rw [if_pos rfl] at hbl
        rw [hl] at hrow hbl
        rw [hU] at hrow hc1
        have HSQ : Hid (∀ (w2 : World), OwnS W.heap.size (sortK l) U w2 → Lone U wr w2 → Below W.heap.size wr w2 → TS W gf vc Z S a K C i g c (D1.set i (sortK l)) us1 K1 a1 w2) := Lib.hid (fun w2 ho hl2 hb => by
          subst hU; subst hl
          exact HT.out.sorted s0 hiD (HT.out.hs.sorted hiD ho hl2 hb))
        have HSO := Lib.hid (sortS_any l W.heap.size U wr hrow (by omega))
        have HD2 : Hid ((D1.set i (sortK l)).length = N) := Lib.hid (by rw [List.length_set]; exact hN)
        have HGI : Hid ((D1.set i (sortK l)).getD i [] = sortK l) := Lib.hid (getD_set_eq hiD)
        obtain ⟨aU, cU, rfl⟩ := hrow.rd.shape
        have HU := Lib.hid hU
        have hsl := sortK_len l
        have hsi := sortK_idem l
        clear hrow hl hU hN HT
        generalize D1.set i (sortK l) = D2 at *
        generalize sortK l = m at *
        rcases Int.lt_or_le (l.length : Int) S with hS | hS
        · go_wp2_with (go_at_call 53; refine HSO.out.mono ?_; rintro e w2 ⟨rfl, ho2, hl2, hb2⟩; have T2 := Lib.hid (HSQ.out w2 ho2 hl2 hb2); obtain ⟨-, hg2, hc2, hf2⟩ := T2.out.hs.cell (k := i) (by rw [HD2.out]; exact hlt); rw [HU.out] at hc2; clear ho2 hl2 hb2)
          exact ⟨⟨i + 1, D2, us1, K1, a1, rfl, by go_num, HD2.out, Lib.hid (T2.out.low (by rw [HD2.out]; exact hlt) (by rw [HGI.out, hsl]; exact hS) (by rw [HGI.out]; exact hsi))⟩, by simp [intOf]; omega⟩
        · have hS2 : ¬ (l.length : Int) < S := by omega
          by_cases hlast : i + 1 = N
          · have hl3 : (N : Int) - 1 = (i : Int) := by omega
            go_wp2_with (first
              | (go_at_call 53; refine HSO.out.mono ?_; rintro e w2 ⟨rfl, ho2, hl2, hb2⟩; have T2 := Lib.hid (HSQ.out w2 ho2 hl2 hb2); obtain ⟨-, hg2, hc2, hf2⟩ := T2.out.hs.cell (k := i) (by rw [HD2.out]; exact hlt); rw [HU.out] at hc2; clear ho2 hl2 hb2;
                 have HH3 := Lib.hid (T2.out.hs.go (b1 (.cells #[nilS] 57))); have HO3 := Lib.hid HH3.out.own.1; rw [HD2.out] at HO3; have HUL : Hid (us1.length = N) := Lib.hid (by rw [T2.out.hs.own.len, HD2.out]))
              | (at_builtin; refine wp_appV rfl _ _ _ rfl W.heap.size us1 [nilS] _ _ rfl rfl HO3.out (OwnV.one rfl w2).rd.src HH3.out.bel.size (by have := HUL.out; simp; omega) ?_; intro v3 w3 ho3 hb3 hl3'; obtain ⟨a3, c3, rfl⟩ := ho3.rd.shape; obtain ⟨g3, rfl, -⟩ := ho3.cells (by simp);
                 have hL3 : (us1 ++ [nilS]).length = N + 1 := (by have := HUL.out; simp; omega); rw [hL3] at ho3 ⊢;
                 have T3 := Lib.hid (T2.out.grow s0 (by rw [HD2.out]; exact hlast) (by rw [HGI.out, hsl]; exact hS) (HH3.out.snoc (by rw [HD2.out]; exact ho3) (by rw [HD2.out]; exact hl3') hb3)); clear ho3 hb3 hl3'))
            go_step3
            simp only [Exit.inBlock, Exit.then, Exit.jump]
            exact ⟨rfl, i, g3, c3, N + 1, D2 ++ [[]], us1 ++ [nilS], K1, a1, _, _, _, _, _, _, _, _, _, _, _, _, _, _, _, _, _, _, _, _, _, _, _, _, _, _, _, _, _, _, _, _, rfl, by rw [List.length_append, HD2.out]; rfl, T3⟩
          · have hl3 : ¬ (i : Int) = (N : Int) - 1 := by omega
            go_wp2_with (first
              | (go_at_call 53; refine HSO.out.mono ?_; rintro e w2 ⟨rfl, ho2, hl2, hb2⟩; have T2 := Lib.hid (HSQ.out w2 ho2 hl2 hb2); obtain ⟨-, hg2, hc2, hf2⟩ := T2.out.hs.cell (k := i) (by rw [HD2.out]; exact hlt); rw [HU.out] at hc2; clear ho2 hl2 hb2;
                 have h39 := full_low (L := D2) (j := i) (by rw [HD2.out]; exact hlt) (by rw [HGI.out, hsl]; omega) T2.out.ins;
                 have hb62 := T2.out.bd (i + 1) (by omega); rw [if_neg (by omega)] at hb62;
                 have hh := halve_any W gf vc Z a1 K1 g c D2 us1 i w2 T2.out.hs HZ.out T2.out.a0 (by have := T2.out.a1; omega) T2.out.k0 T2.out.k1 (by rw [HD2.out]; omega) (by omega) (by rw [HGI.out, hsl]; omega) (by omega);
                 rw [HD2.out] at hh; have HHV := Lib.hid hh; clear hh)
              | (go_at_call 87; refine HHV.out.mono ?_; rintro e w3 ⟨rfl, us3, hs3⟩; have T3 := Lib.hid (T2.out.full s0 (by rw [HD2.out]; omega) (by rw [HGI.out, hsl]; exact hS) (by rw [HGI.out]; exact hsi) hs3); clear hs3))
            exact ⟨⟨i + 1, _, us3, _, _, rfl, by go_num, by rw [List.length_set, List.length_set]; exact HD2.out, T3⟩, by simp [intOf]; omega⟩
      · obtain rfl : i = N := by omega
        have hnlt : ¬ (i : Int) < (i : Int) := by omega
        have he := HT.out.eq
        rw [← hN, List.take_length, List.drop_length, stl_nil, List.append_nil] at he
        have HE := Lib.hid he
        clear he
        go_wp2
        simp only [Exit.jump]
        go_ret
        exact ⟨g, c, us1, by rw [HE.out, hN]; rfl, by rw [HE.out]; exact HT.out.hs⟩
  · rintro a' w' ⟨i0, g1, c1, N, D0, us0, K0, a0, v8, v9, v10, v11, v12, v13, v14, v15, v16, v17, v18, v19, v20, v21, v22, v23, v24, v25, v26, v27, v28, v29, v30, v31, v32, v33, v34, v35, v36, v37, v38, v39, rfl, hND, HT0⟩
    clear T0
    go_wp2
    go_loopw [1, 7] (fun lv iv wr => ∃ (i : Nat) (D1 : List (List ByteArray)) (us1 : List Value) (K1 a1 : Int), lv = .slice (some ⟨g1, 0, none⟩) N c1 ∧ iv = .int .i64 (i : Int) ∧ D1.length = N ∧ Hid (TS W gf vc Z S a K C i g1 c1 D1 us1 K1 a1 wr)) (fun _ iv _ => N - (intOf iv).toNat)
    case atStart => exact ⟨i0, D0, us0, K0, a0, rfl, rfl, hND, HT0⟩
    case round =>
      obtain ⟨i, D1, us1, K1, a1, rfl, rfl, hN, HT⟩ := hrel
      have h41 : N ≤ 41 := by rw [← hN]; exact HT.out.len
      have hile : i ≤ N := by rw [← hN]; exact HT.out.il
      by_cases hlt : i < N
      · have hlt2 : (i : Int) < (N : Int) := by omega
        have hiD : i < D1.length := by rw [hN]; exact hlt
        obtain ⟨-, hgl, hc1, hf1⟩ := HT.out.hs.cell (k := i) hiD
        have hrow := HT.out.hs.row (k := i) hiD
        obtain ⟨l, hl⟩ : ∃ l, D1.getD i [] = l := ⟨_, rfl⟩
        obtain ⟨U, hU⟩ : ∃ U, us1.getD i nilS = U := ⟨_, rfl⟩
        have hbl := HT.out.bd i (Nat.le_refl _)
        rw [if_pos rfl] at hbl
        rw [hl] at hrow hbl
        rw [hU] at hrow hc1
        have HSQ : Hid (∀ (w2 : World), OwnS W.heap.size (sortK l) U w2 → Lone U wr w2 → Below W.heap.size wr w2 → TS W gf vc Z S a K C i g1 c1 (D1.set i (sortK l)) us1 K1 a1 w2) := Lib.hid (fun w2 ho hl2 hb => by
          subst hU; subst hl
          exact HT.out.sorted s0 hiD (HT.out.hs.sorted hiD ho hl2 hb))
        have HSO := Lib.hid (sortS_any l W.heap.size U wr hrow (by omega))
        have HD2 : Hid ((D1.set i (sortK l)).length = N) := Lib.hid (by rw [List.length_set]; exact hN)
        have HGI : Hid ((D1.set i (sortK l)).getD i [] = sortK l) := Lib.hid (getD_set_eq hiD)
        obtain ⟨aU, cU, rfl⟩ := hrow.rd.shape
        have HU := Lib.hid hU
        have hsl := sortK_len l
        have hsi := sortK_idem l
        clear hrow hl hU hN HT
        generalize D1.set i (sortK l) = D2 at *
        generalize sortK l = m at *
        rcases Int.lt_or_le (l.length : Int) S with hS | hS
        · go_wp2_with (go_at_call 53; refine HSO.out.mono ?_; rintro e w2 ⟨rfl, ho2, hl2, hb2⟩; have T2 := Lib.hid (HSQ.out w2 ho2 hl2 hb2); obtain ⟨-, hg2, hc2, hf2⟩ := T2.out.hs.cell (k := i) (by rw [HD2.out]; exact hlt); rw [HU.out] at hc2; clear ho2 hl2 hb2)
          exact ⟨⟨i + 1, D2, us1, K1, a1, rfl, by go_num, HD2.out, Lib.hid (T2.out.low (by rw [HD2.out]; exact hlt) (by rw [HGI.out, hsl]; exact hS) (by rw [HGI.out]; exact hsi))⟩, by simp [intOf]; omega⟩
        · have hS2 : ¬ (l.length : Int) < S := by omega
          by_cases hlast : i + 1 = N
          · have hl3 : (N : Int) - 1 = (i : Int) := by omega
            go_wp2_with (first
              | (go_at_call 53; refine HSO.out.mono ?_; rintro e w2 ⟨rfl, ho2, hl2, hb2⟩; have T2 := Lib.hid (HSQ.out w2 ho2 hl2 hb2); obtain ⟨-, hg2, hc2, hf2⟩ := T2.out.hs.cell (k := i) (by rw [HD2.out]; exact hlt); rw [HU.out] at hc2; clear ho2 hl2 hb2;
                 have HH3 := Lib.hid (T2.out.hs.go (b1 (.cells #[nilS] 57))); have HO3 := Lib.hid HH3.out.own.1; rw [HD2.out] at HO3; have HUL : Hid (us1.length = N) := Lib.hid (by rw [T2.out.hs.own.len, HD2.out]))
              | (at_builtin; refine wp_appV rfl _ _ _ rfl W.heap.size us1 [nilS] _ _ rfl rfl HO3.out (OwnV.one rfl w2).rd.src HH3.out.bel.size (by have := HUL.out; simp; omega) ?_; intro v3 w3 ho3 hb3 hl3'; obtain ⟨a3, c3, rfl⟩ := ho3.rd.shape; obtain ⟨g3, rfl, -⟩ := ho3.cells (by simp);
                 have hL3 : (us1 ++ [nilS]).length = N + 1 := (by have := HUL.out; simp; omega); rw [hL3] at ho3 ⊢;
                 have T3 := Lib.hid (T2.out.grow s0 (by rw [HD2.out]; exact hlast) (by rw [HGI.out, hsl]; exact hS) (HH3.out.snoc (by rw [HD2.out]; exact ho3) (by rw [HD2.out]; exact hl3') hb3)); clear ho3 hb3 hl3'))
            go_step3
            simp only [Exit.inBlock, Exit.then, Exit.jump]
            exact ⟨rfl, ⟨i, g3, c3, N + 1, D2 ++ [[]], us1 ++ [nilS], K1, a1, _, _, _, _, _, _, _, _, _, _, _, _, _, _, _, _, _, _, _, _, _, _, _, _, _, _, _, _, _, _, _, _, rfl, by rw [List.length_append, HD2.out]; rfl, T3⟩, by simp [lenOf]; omega⟩
          · have hl3 : ¬ (i : Int) = (N : Int) - 1 := by omega
            go_wp2_with (first
              | (go_at_call 53; refine HSO.out.mono ?_; rintro e w2 ⟨rfl, ho2, hl2, hb2⟩; have T2 := Lib.hid (HSQ.out w2 ho2 hl2 hb2); obtain ⟨-, hg2, hc2, hf2⟩ := T2.out.hs.cell (k := i) (by rw [HD2.out]; exact hlt); rw [HU.out] at hc2; clear ho2 hl2 hb2;
                 have h39 := full_low (L := D2) (j := i) (by rw [HD2.out]; exact hlt) (by rw [HGI.out, hsl]; omega) T2.out.ins;
                 have hb62 := T2.out.bd (i + 1) (by omega); rw [if_neg (by omega)] at hb62;
                 have hh := halve_any W gf vc Z a1 K1 g1 c1 D2 us1 i w2 T2.out.hs HZ.out T2.out.a0 (by have := T2.out.a1; omega) T2.out.k0 T2.out.k1 (by rw [HD2.out]; omega) (by omega) (by rw [HGI.out, hsl]; omega) (by omega);
                 rw [HD2.out] at hh; have HHV := Lib.hid hh; clear hh)
              | (go_at_call 87; refine HHV.out.mono ?_; rintro e w3 ⟨rfl, us3, hs3⟩; have T3 := Lib.hid (T2.out.full s0 (by rw [HD2.out]; omega) (by rw [HGI.out, hsl]; exact hS) (by rw [HGI.out]; exact hsi) hs3); clear hs3))
            exact ⟨⟨i + 1, _, us3, _, _, rfl, by go_num, by rw [List.length_set, List.length_set]; exact HD2.out, T3⟩, by simp [intOf]; omega⟩
      · obtain rfl : i = N := by omega
        have hnlt : ¬ (i : Int) < (i : Int) := by omega
        have he := HT.out.eq
        rw [← hN, List.take_length, List.drop_length, stl_nil, List.append_nil] at he
        have HE := Lib.hid he
        clear he
        go_wp2
        simp only [Exit.jump]
        go_ret
        exact ⟨g1, c1, us1, by rw [HE.out, hN]; rfl, by rw [HE.out]; exact HT.out.hs⟩
end Go.Proofs.YtdifilhfmbpalaaDoor
