/- What a law makes has keys of at most three bytes; ranks and quantiles of one summary; the walk of the law RanksOrder. -/
import Derived.Test.YtdifilhfmbpalaaDoorRkL
import Derived.Test.YtdifilhfmbpalaaDoorMadeR
import Derived.Test.YtdifilhfmbpalaaDoorRkQZ
import Derived.Deep.RegionHeld3
namespace Go.Proofs.YtdifilhfmbpalaaDoor
open Go.RowKit
set_option linter.unusedVariables false
set_option linter.unusedSimpArgs false
theorem stl_all {p : ByteArray → Prop} {S : Int} {C : List Int} (h2 : 2 ≤ S) (i : Nat) (L : List (List ByteArray)) (K a : Int) (h : ∀ l ∈ L, ∀ x ∈ l, p x) : ∀ l ∈ (stl S C i L K a).1, ∀ x ∈ l, p x := by
  refine stl_ind h2 (fun i L K a r => (∀ l ∈ L, ∀ x ∈ l, p x) → ∀ l ∈ r.1, ∀ x ∈ l, p x) (fun _ _ _ _ => by simp) (fun i l L K a r hs hr hk => ?_) (fun i l L K a r hs hr hk => ?_) i L K a h
  · intro m hm
    rcases List.mem_cons.1 hm with rfl | hm
    · exact fun x hx => hk l (by simp) x ((sortK_perm l).mem_iff.1 hx)
    · exact hr (fun n hn => hk n (by simp [hn])) m hm
  · intro m hm
    have hks : ∀ x ∈ sortK l, p x := fun x hx => hk l (by simp) x ((sortK_perm l).mem_iff.1 hx)
    rcases List.mem_cons.1 hm with rfl | hm
    · exact fun x hx => hks x (List.mem_of_mem_drop hx)
    · exact hr (addC_all (fun n hn => hk n (by simp [hn])) (fun x hx => hks x (pick_mem (bitI_nat C a) hx))) m hm
theorem joinL_all {p : ByteArray → Prop} {A B : List (List ByteArray)} (hA : ∀ l ∈ A, ∀ x ∈ l, p x) (hB : ∀ l ∈ B, ∀ x ∈ l, p x) : ∀ l ∈ joinL A B, ∀ x ∈ l, p x := by
  intro l hl x hx
  obtain ⟨i, rfl⟩ := joinL_mem hl
  rcases List.mem_append.1 hx with hx | hx
  · exact getD_all (p := fun l => ∀ x ∈ l, p x) hA (by simp) i x hx
  · exact getD_all (p := fun l => ∀ x ∈ l, p x) hB (by simp) i x hx
theorem insR_all {p : ByteArray → Prop} (t : RK) (k : ByteArray) (x : Int) (Z : List Int) (a : Int) (h : ∀ l ∈ t.L, ∀ x ∈ l, p x) (hk : p k) : ∀ l ∈ (insR t k x Z a).1.L, ∀ x ∈ l, p x := by
  unfold insR
  split
  · rename_i hv
    have h2 := (valR_ok hv).s0
    split
    · unfold sumK
      split
      · exact h
      · exact stl_all h2 0 _ _ _ (joinL_all h (fun l hl y hy => by rw [aloneL_key l hl y hy]; exact hk))
    · intro l hl; cases hl
  · intro l hl; cases hl
theorem mdR_all {p : ByteArray → Prop} (Z : List Int) (hp : ∀ n, p (keyS n)) : ∀ (L : List Int) (s : RK × Int), (∀ l ∈ s.1.L, ∀ x ∈ l, p x) → ∀ l ∈ (L.foldl (stR Z) s).1.L, ∀ x ∈ l, p x
  | [], _, h => h
  | y :: L, s, h => mdR_all Z hp L (stR Z s y) (insR_all s.1 _ _ Z s.2 h (hp _))
theorem madeR_all {p : ByteArray → Prop} (hp : ∀ n, p (keyS n)) (S : Int) (L Z : List Int) : ∀ l ∈ (madeR S L Z).L, ∀ x ∈ l, p x := by
  refine mdR_all Z hp _ _ ?_
  unfold newR
  split <;> (intro l hl; cases hl)
theorem topQ : ∀ M : List UInt8, M.length ≤ 3 → Op.bytesLess [255, 255, 255, 255] M = false := by
  have h0 : ∀ a : UInt8, ¬ (255 : UInt8) < a := fun a h => by
    have h1 := UInt8.lt_iff_toNat_lt.1 h
    have h2 := a.toNat_lt
    have h3 : (255 : UInt8).toNat = 255 := rfl
    omega
  intro M hM
  cases hb : Op.bytesLess [255, 255, 255, 255] M with
  | false => rfl
  | true =>
    exfalso
    match M with
    | [] => simp [Op.bytesLess] at hb
    | [a] => rcases (lessQ_cons _ _ _ _).1 hb with h | ⟨-, h⟩; exact h0 _ h; simp [Op.bytesLess] at h
    | [a, b] =>
      rcases (lessQ_cons _ _ _ _).1 hb with h | ⟨-, h⟩; exact h0 _ h
      rcases (lessQ_cons _ _ _ _).1 h with h | ⟨-, h⟩; exact h0 _ h; simp [Op.bytesLess] at h
    | [a, b, c] =>
      rcases (lessQ_cons _ _ _ _).1 hb with h | ⟨-, h⟩; exact h0 _ h
      rcases (lessQ_cons _ _ _ _).1 h with h | ⟨-, h⟩; exact h0 _ h
      rcases (lessQ_cons _ _ _ _).1 h with h | ⟨-, h⟩; exact h0 _ h; simp [Op.bytesLess] at h
    | _ :: _ :: _ :: _ :: _ => simp at hM
theorem top_ge {x : ByteArray} (h : x.size ≤ 3) : lessK ⟨#[255, 255, 255, 255]⟩ x = false := by
  unfold lessK
  rw [Lib.toList_data, Lib.toList_data]
  exact topQ _ (by simpa using h)
theorem top_key : keyB (byt ⟨#[255, 255, 255, 255]⟩) = true := by
  unfold keyB
  rw [byt_len]
  rfl
theorem rnkN_congr {a b : ByteArray} : ∀ (L : List (List ByteArray)) (i : Nat), (∀ l ∈ L, ∀ y ∈ l, lessK a y = lessK b y) → rnkN a i L = rnkN b i L
  | [], _, _ => rfl
  | l :: L, i, h => by
    have h1 := rnkN_congr L (i + 1) (fun m hm => h m (List.mem_cons_of_mem _ hm))
    have h2 : ∀ l : List ByteArray, (∀ y ∈ l, lessK a y = lessK b y) → cntK a l = cntK b l := by
      intro l
      induction l with
      | nil => intro _; rfl
      | cons x l ih =>
        intro h
        rw [cntK_hd, cntK_hd, h x (by simp), ih (fun y hy => h y (by simp [hy]))]
    simp only [rnkN]
    rw [h1, h2 l (h l (by simp))]
theorem rnkN_zero {a : ByteArray} : ∀ (L : List (List ByteArray)) (i : Nat), (∀ l ∈ L, ∀ y ∈ l, lessK a y = true) → rnkN a i L = 0
  | [], _, _ => rfl
  | l :: L, i, h => by
    have h1 := rnkN_zero L (i + 1) (fun m hm => h m (List.mem_cons_of_mem _ hm))
    have h2 : ∀ l : List ByteArray, (∀ y ∈ l, lessK a y = true) → cntK a l = 0 := by
      intro l
      induction l with
      | nil => intro _; rfl
      | cons x l ih =>
        intro h
        rw [cntK_hd, h x (by simp), ih (fun y hy => h y (by simp [hy])), if_pos rfl]
    simp only [rnkN]
    rw [h1, h2 l (h l (by simp))]
    simp
/-- A list that is not empty has a greatest string. -/
theorem top_of : ∀ (M : List ByteArray), M ≠ [] → ∃ x ∈ M, ∀ y ∈ M, lessK x y = false
  | [], h => absurd rfl h
  | [x], _ => ⟨x, by simp, fun y hy => by simp at hy; subst hy; exact lessK_irr _⟩
  | x :: y :: M, _ => by
    obtain ⟨t, ht, h⟩ := top_of (y :: M) (by simp)
    cases hx : lessK t x with
    | false =>
      refine ⟨t, List.mem_cons_of_mem _ ht, fun z hz => ?_⟩
      rcases List.mem_cons.1 hz with rfl | hz
      · exact hx
      · exact h z hz
    | true =>
      refine ⟨x, by simp, fun z hz => ?_⟩
      rcases List.mem_cons.1 hz with rfl | hz
      · exact lessK_irr _
      · cases hxz : lessK x z with
        | false => rfl
        | true => have := lessK_trans hx hxz; rw [h z hz] at this; cases this
/-- The rank of a key is that of a key of the summary, where it is not nothing. -/
theorem rank_in {L : List (List ByteArray)} {X : ByteArray} (h : 1 ≤ rnkN X 0 L) : ∃ x ∈ L.flatten, lessK X x = false ∧ rnkN x 0 L = rnkN X 0 L := by
  by_cases hf : L.flatten.filter (fun y => !lessK X y) = []
  · exfalso
    rw [rnkN_zero L 0 (fun l hl y hy => by
      cases hy2 : lessK X y with
      | true => rfl
      | false =>
        have : y ∈ L.flatten.filter (fun y => !lessK X y) := List.mem_filter.2 ⟨List.mem_flatten.2 ⟨l, hl, hy⟩, by rw [hy2]; rfl⟩
        rw [hf] at this; cases this)] at h
    omega
  · obtain ⟨x, hx, hm⟩ := top_of _ hf
    obtain ⟨hx1, hx2⟩ := List.mem_filter.1 hx
    have hx3 : lessK X x = false := by simpa using hx2
    refine ⟨x, hx1, hx3, rnkN_congr L 0 (fun l hl y hy => ?_)⟩
    cases hy2 : lessK X y with
    | false => exact hm y (List.mem_filter.2 ⟨List.mem_flatten.2 ⟨l, hl, hy⟩, by rw [hy2]; rfl⟩)
    | true =>
      cases hxy : lessK x y with
      | true => rfl
      | false => have := leK_trans hxy hx3; rw [hy2] at this; cases this
theorem order_fin {L : List (List ByteArray)} {num T : Int} {q X : ByteArray} (hq : IsQ L (max (cdivN (num * T) 15) 1) q) :
    num * T ≤ (rnkN q 0 L : Nat) * (15 : Int) ∧ (lessK X q = true → (rnkN X 0 L : Nat) * (15 : Int) < num * T ∨ ((rnkN X 0 L : Nat) : Int) < 1) := by
  have hi := hq.hi
  have lo := hq.lo
  clear hq
  obtain ⟨M, hM⟩ : ∃ M, M = max (cdivN (num * T) 15) 1 := ⟨_, rfl⟩
  rw [← hM] at hi lo
  generalize num * T = PT at *
  refine ⟨?_, fun hX => ?_⟩
  · generalize ((rnkN q 0 L : Nat) : Int) = N at *
    have h2 : cdivN PT 15 ≤ N := by omega
    clear hi hM lo
    unfold cdivN at h2
    split at h2 <;> omega
  · by_cases h1 : ((rnkN X 0 L : Nat) : Int) < 1
    · exact .inr h1
    · refine .inl ?_
      obtain ⟨x, hx, hx2, hx3⟩ := rank_in (L := L) (X := X) (by omega)
      by_cases h2 : M ≤ (rnkN X 0 L : Nat)
      · have h3 := lo x hx (by rw [hx3]; exact h2)
        have := leK_trans h3 hx2
        rw [hX] at this; cases this
      · generalize ((rnkN X 0 L : Nat) : Int) = N at *
        have h3 : N < cdivN PT 15 := by omega
        clear h2 hM lo hi hx hx2 hx3
        unfold cdivN at h3
        split at h3 <;> omega
theorem keyS_key (n : Int) : keyB (byt (keyS n)) = true := by
  have := keyS_bd n
  unfold keyB
  rw [byt_len]
  simp
  omega
theorem ValR.key_of {S T K : Int} {L : List (List ByteArray)} (h : ValR S T K L) {x : ByteArray} (hx : x ∈ L.flatten) : keyB (byt x) = true := by
  obtain ⟨l, hl, hx⟩ := List.mem_flatten.1 hx
  exact (h.lv l hl).2.1 x hx
set_option maxRecDepth 100000 in
set_option maxHeartbeats 2000000 in
theorem ranksOrder_walk (S : Int) (al : Option Addr) (ln cap : Nat) (z : List Int) (bl : Option Addr) (lm cbp : Nat) (y : List Int) (a b num : Int) (W : World) (wa : (Lit.int .i64 S).wf = true) (w0 : InRow .i64 W al ln cap z) (w1 : InRow .u8 W bl lm cbp y) (wn : (Lit.int .i64 a).wf = true) (wu : (Lit.int .i64 b).wf = true) (wd : (Lit.int .i64 num).wf = true) (ht : TabP W) :
    Calls Tryd.prog 8 #[.int .i64 S, .slice al ln cap, .slice bl lm cbp, .int .i64 a, .int .i64 b, .int .i64 num] W fun e w' => e = .returned (.bool true) ∧ Below W.heap.size W w' := by
  obtain ⟨S0, S1⟩ := wf_bd wa
  have HZ := Lib.hid (inRow_rd w1)
  have HT := Lib.hid ht
  have h1 := madeR_any S (z.take ln) (y.take lm) _ _ W S0 S1 (inRow_rdJ w0) (inRow_rd w1)
  have hval := madeR_val S (z.take ln) (y.take lm)
  have hall := madeR_all (p := fun x => x.size ≤ 3) (fun n => (keyS_bd n).2) S (z.take ln) (y.take lm)
  generalize madeR S (z.take ln) (y.take lm) = c at *
  generalize y.take lm = Z at *
  have hsh := fun w (hb : Below W.heap.size W w) => short_any Z _ w (HZ.out.below hb)
  have hkn := Lib.hid (fun w (hb : Below W.heap.size W w) => knownR_any w (HT.out.below hb))
  have m1 := mask16r a
  have m2 := mask16r b
  have m3 : bits .and .i64 num 15 = num % 16 := i64_mask 4 (by decide) num
  have e1 : 0 ≤ num % 16 ∧ num % 16 ≤ 15 := by omega
  have hkeyA := Lib.hid (fun w => key_any (a % 65536) w (by omega) (by omega))
  have hkeyB := Lib.hid (fun w => key_any (b % 65536) w (by omega) (by omega))
  generalize a % 65536 = a2 at *
  generalize b % 65536 = b2 at *
  have hkA := keyS_key a2
  have hkB := keyS_key b2
  generalize keyS a2 = A at *
  generalize keyS b2 = B at *
  generalize num % 16 = num2 at *
  obtain ⟨e10, e11⟩ := e1
  have HR : Hid (∀ (k : ByteArray) (hk : keyB (byt k) = true) (v : Value) (w : World) (hv : RdR c v w), Calls Tryd.prog 24 #[v, .string k] w fun e w' => e = .returned (.tuple #[.int .i64 ((rnkN k 0 c.L : Nat) : Int), .int .i64 0]) ∧ Below w.heap.size w w') := Lib.hid (fun k hk v w hv => by
    have h := prank_any c v k w hv hval.lok (key_size hk)
    unfold rkR rkRE at h
    rw [valR_of hval, if_pos rfl, if_pos rfl, if_pos hk, if_pos hk] at h
    exact h)
  have HRT := Lib.hid (HR.out ⟨#[255, 255, 255, 255]⟩ top_key)
  rw [top_rank (fun x hx => by obtain ⟨l, hl, hx⟩ := List.mem_flatten.1 hx; exact top_ge (hall l hl x hx)), hval.sum] at HRT
  have hqt := Lib.hid (fun (v : Value) (w : World) (hv : RdR c v w) => pqt_any c num2 15 v w hv hval.lok)
  clear wa wn w0 w1 wu wd ht
  by_cases hs : Z.length ≤ 100
  · rw [decide_eq_true hs] at hsh
    cases hlt : lessK B A with
    | false =>
      have hg1 := (gtr_eq B A).trans hlt
      have hg2 : (!(Op.bytesLess A.toList B.toList || A.toList == B.toList)) = false := by rw [leq_eq, hlt]; rfl
      have hXY : lessK B A = false := hlt
      have hPQ := rnkN_mono hXY c.L 0
      have hPT := rnkN_le A c.L 0
      obtain ⟨P, hP⟩ : ∃ P : Int, P = (rnkN A 0 c.L : Nat) := ⟨_, rfl⟩
      obtain ⟨Q, hQ⟩ : ∃ Q : Int, Q = (rnkN B 0 c.L : Nat) := ⟨_, rfl⟩
      have HPX := Lib.hid (HR.out A hkA)
      have HPY := Lib.hid (HR.out B hkB)
      rw [← hP] at HPX
      rw [← hQ] at HPY
      have hdPQ : decide (Q < P) = false := decide_eq_false (by omega)
      have P0 : 0 ≤ P := by omega
      have P1 : P ≤ c.T := by have := hval.sum; omega
      by_cases hT : c.T = 0
      · have hqe : qtE c num2 15 = 17 := by unfold qtE; rw [valR_of hval, if_pos rfl, if_pos (by omega), if_pos hT]
        have hQT := Lib.hid (fun v w hv => hqt.out v w hv)
        rw [hqe] at hQT
        have HHT := Lib.hid hT
        clear hqe hqt hval hall hP hQ hPQ hPT hT
        go_enter Tryd.func8, Tryd.ntmps8
        go_upto_region 4 with (first
          | (go_at_call 10; (with_reducible refine (hsh _ (Below.refl _ _)).mono ?_); rintro e w' ⟨rfl, rfl⟩)
          | (go_at_call 13; (with_reducible refine h1.mono ?_); rintro e w3 ⟨v3, rfl, ⟨a3, n3, c3, rfl, ho3⟩, hb3⟩; have S3 := Lib.hid (SkR.new ho3); have B3 := Lib.hid (bal hb3 (.cells #[.int .i64 c.S, .int .i64 c.T, .int .i64 c.K, .slice a3 n3 c3, .bool c.s] 28)); clear h1 ho3 hb3))
        generalize w3.alloc (.cells #[.int .i64 c.S, .int .i64 c.T, .int .i64 c.K, .slice a3 n3 c3, .bool c.s] 28) = X at *
        have HS3 := Lib.hid (Below.refl X.heap.size X)
        obtain ⟨p0, p1, p2, p3, p4⟩ := S3.out.cells
        go_upto_region 14 with (first
              | (go_at_call 25; (with_reducible refine (hkeyA.out _).mono ?_); rintro e w4 ⟨rfl, hb⟩; have HS4 := Lib.hid (bgo HS3.out hb); clear hb p0 p1 p2 p3 p4; obtain ⟨p0, p1, p2, p3, p4⟩ := (S3.out.go HS4.out).cells)
              | (go_at_call 25; (with_reducible refine (hkeyB.out _).mono ?_); rintro e w5 ⟨rfl, hb⟩; have HS5 := Lib.hid (bgo HS4.out hb); clear hb p0 p1 p2 p3 p4; obtain ⟨p0, p1, p2, p3, p4⟩ := (S3.out.go HS5.out).cells)
              | (go_at_call 24; (with_reducible refine (HPX.out _ _ (S3.out.go HS5.out).rd).mono ?_); rintro e w6 ⟨rfl, hb⟩; have HS6 := Lib.hid (bgo HS5.out hb); clear hb p0 p1 p2 p3 p4; obtain ⟨p0, p1, p2, p3, p4⟩ := (S3.out.go HS6.out).cells)
              | (go_at_call 24; (with_reducible refine (HPY.out _ _ (S3.out.go HS6.out).rd).mono ?_); rintro e w7 ⟨rfl, hb⟩; have HS7 := Lib.hid (bgo HS6.out hb); clear hb p0 p1 p2 p3 p4; obtain ⟨p0, p1, p2, p3, p4⟩ := (S3.out.go HS7.out).cells)
              | (go_at_call 24; (with_reducible refine (HRT.out _ _ (S3.out.go HS7.out).rd).mono ?_); rintro e w8 ⟨rfl, hb⟩; have HS8 := Lib.hid (bgo HS7.out hb); clear hb p0 p1 p2 p3 p4; obtain ⟨p0, p1, p2, p3, p4⟩ := (S3.out.go HS8.out).cells)
              | (go_at_call 27; (with_reducible refine (hQT.out _ _ (S3.out.go HS8.out).rd).mono ?_); rintro e w9 ⟨q, rfl, -, hb⟩; have HS9 := Lib.hid (bgo HS8.out hb); clear hb p0 p1 p2 p3 p4; obtain ⟨p0, p1, p2, p3, p4⟩ := (S3.out.go HS9.out).cells))
        have hT0 : c.T = 0 := HHT.out
        rw [hT0] at p1
        clear hT0
        go_wp2_with (go_at_call 11; (with_reducible refine (hkn.out _ (bgo B3.out HS9.out)).mono ?_); rintro e w11 ⟨rfl, hb11⟩; have B11 := Lib.hid (bgo (bgo B3.out HS9.out) hb11); clear hb11)
        all_goals go_ret
        all_goals exact ⟨rfl, B11.out⟩
      · have hqe : qtE c num2 15 = 0 := by unfold qtE; rw [valR_of hval, if_pos rfl, if_pos (by omega), if_neg hT]
        have hQT := Lib.hid (fun v w hv => hqt.out v w hv)
        rw [hqe] at hQT
        have hT0 : decide (c.T = 0) = false := decide_eq_false hT
        have HQQ := Lib.hid (fun (q : ByteArray) (h : QRes c num2 15 q) => (show IsQ c.L (max (cdivN (num2 * c.T) 15) 1) q by unfold QRes lstR at h; rwa [hqe, if_pos rfl] at h))
        have HVAL := Lib.hid hval
        have t0 := hval.t0
        have t1 := hval.t1
        have hm0 : 0 ≤ num2 * c.T := Int.mul_nonneg e10 t0
        have hm1 : num2 * c.T ≤ 15 * 1099511627776 := Int.mul_le_mul e11 t1 t0 (by omega)
        have qm1 : IntKind.i64.wrap (num2 * c.T) = num2 * c.T := by rw [IntKind.wrap_i64]; omega
        have qm2 : wrap64 (num2 * c.T) = num2 * c.T := by unfold wrap64; omega
        have qp1 : IntKind.i64.wrap (P * 15) = P * 15 := by rw [IntKind.wrap_i64]; omega
        have qp2 : wrap64 (P * 15) = P * 15 := by unfold wrap64; omega
        have HP := Lib.hid hP
        clear hqe hqt hall hP hQ hPQ hPT
        go_enter Tryd.func8, Tryd.ntmps8
        go_upto_region 4 with (first
          | (go_at_call 10; (with_reducible refine (hsh _ (Below.refl _ _)).mono ?_); rintro e w' ⟨rfl, rfl⟩)
          | (go_at_call 13; (with_reducible refine h1.mono ?_); rintro e w3 ⟨v3, rfl, ⟨a3, n3, c3, rfl, ho3⟩, hb3⟩; have S3 := Lib.hid (SkR.new ho3); have B3 := Lib.hid (bal hb3 (.cells #[.int .i64 c.S, .int .i64 c.T, .int .i64 c.K, .slice a3 n3 c3, .bool c.s] 28)); clear h1 ho3 hb3))
        generalize w3.alloc (.cells #[.int .i64 c.S, .int .i64 c.T, .int .i64 c.K, .slice a3 n3 c3, .bool c.s] 28) = X at *
        have HS3 := Lib.hid (Below.refl X.heap.size X)
        obtain ⟨p0, p1, p2, p3, p4⟩ := S3.out.cells
        go_upto_region 14 with (first
              | (go_at_call 25; (with_reducible refine (hkeyA.out _).mono ?_); rintro e w4 ⟨rfl, hb⟩; have HS4 := Lib.hid (bgo HS3.out hb); clear hb p0 p1 p2 p3 p4; obtain ⟨p0, p1, p2, p3, p4⟩ := (S3.out.go HS4.out).cells)
              | (go_at_call 25; (with_reducible refine (hkeyB.out _).mono ?_); rintro e w5 ⟨rfl, hb⟩; have HS5 := Lib.hid (bgo HS4.out hb); clear hb p0 p1 p2 p3 p4; obtain ⟨p0, p1, p2, p3, p4⟩ := (S3.out.go HS5.out).cells)
              | (go_at_call 24; (with_reducible refine (HPX.out _ _ (S3.out.go HS5.out).rd).mono ?_); rintro e w6 ⟨rfl, hb⟩; have HS6 := Lib.hid (bgo HS5.out hb); clear hb p0 p1 p2 p3 p4; obtain ⟨p0, p1, p2, p3, p4⟩ := (S3.out.go HS6.out).cells)
              | (go_at_call 24; (with_reducible refine (HPY.out _ _ (S3.out.go HS6.out).rd).mono ?_); rintro e w7 ⟨rfl, hb⟩; have HS7 := Lib.hid (bgo HS6.out hb); clear hb p0 p1 p2 p3 p4; obtain ⟨p0, p1, p2, p3, p4⟩ := (S3.out.go HS7.out).cells)
              | (go_at_call 24; (with_reducible refine (HRT.out _ _ (S3.out.go HS7.out).rd).mono ?_); rintro e w8 ⟨rfl, hb⟩; have HS8 := Lib.hid (bgo HS7.out hb); clear hb p0 p1 p2 p3 p4; obtain ⟨p0, p1, p2, p3, p4⟩ := (S3.out.go HS8.out).cells)
              | (go_at_call 27; (with_reducible refine (hQT.out _ _ (S3.out.go HS8.out).rd).mono ?_); rintro e w9 ⟨q, rfl, hq, hb⟩; have HQ9 := Lib.hid (HQQ.out _ hq); clear hq; have HS9 := Lib.hid (bgo HS8.out hb); clear hb p0 p1 p2 p3 p4; obtain ⟨p0, p1, p2, p3, p4⟩ := (S3.out.go HS9.out).cells))
        have hf := order_fin (X := A) HQ9.out
        have hqk := HVAL.out.key_of HQ9.out.mem
        have hqT := rnkN_le q c.L 0
        have hsum := HVAL.out.sum
        obtain ⟨N, hN⟩ : ∃ N : Int, N = (rnkN q 0 c.L : Nat) := ⟨_, rfl⟩
        have HPQ := Lib.hid (HR.out q hqk)
        rw [← hN] at HPQ hf
        rw [← HP.out] at hf
        obtain ⟨hf1, hf2⟩ := hf
        have n1 : N ≤ c.T := by omega
        have n0 : 0 ≤ N := by omega
        clear hsum hqT hqk hN HP hval
        have qn1 : IntKind.i64.wrap (N * 15) = N * 15 := by rw [IntKind.wrap_i64]; omega
        have qn2 : wrap64 (N * 15) = N * 15 := by unfold wrap64; omega
        have hf0 : decide (num2 * c.T ≤ N * 15) = true := decide_eq_true hf1
        cases hc : lessK A q with
        | false =>
          have hc2 : Op.bytesLess A.toList q.toList = false := hc
          clear hf2 hc
          go_wp2_with (first
                | (go_at_call 24; (with_reducible refine (HPQ.out _ _ (S3.out.go HS9.out).rd).mono ?_); rintro e w10 ⟨rfl, hb⟩; have HS10 := Lib.hid (bgo HS9.out hb); clear hb p0 p1 p2 p3 p4; obtain ⟨p0, p1, p2, p3, p4⟩ := (S3.out.go HS10.out).cells)
                | (go_at_call 11; (with_reducible refine (hkn.out _ (bgo B3.out HS10.out)).mono ?_); rintro e w11 ⟨rfl, hb11⟩; have B11 := Lib.hid (bgo (bgo B3.out HS10.out) hb11); clear hb11))
          all_goals go_ret
          all_goals exact ⟨rfl, B11.out⟩
        | true =>
          have hc2 : Op.bytesLess A.toList q.toList = true := hc
          have hf3 := hf2 hc
          clear hf2 hc
          by_cases hd : P * 15 < num2 * c.T
          · have hd2 : decide (P * 15 < num2 * c.T) = true := decide_eq_true hd
            clear hd hf3
            go_wp2_with (first
                  | (go_at_call 24; (with_reducible refine (HPQ.out _ _ (S3.out.go HS9.out).rd).mono ?_); rintro e w10 ⟨rfl, hb⟩; have HS10 := Lib.hid (bgo HS9.out hb); clear hb p0 p1 p2 p3 p4; obtain ⟨p0, p1, p2, p3, p4⟩ := (S3.out.go HS10.out).cells)
                  | (go_at_call 11; (with_reducible refine (hkn.out _ (bgo B3.out HS10.out)).mono ?_); rintro e w11 ⟨rfl, hb11⟩; have B11 := Lib.hid (bgo (bgo B3.out HS10.out) hb11); clear hb11))
            all_goals go_ret
            all_goals exact ⟨rfl, B11.out⟩
          · have hd2 : decide (P * 15 < num2 * c.T) = false := decide_eq_false hd
            have hd3 : decide (P < 1) = true := decide_eq_true (hf3.resolve_left hd)
            clear hd hf3
            go_wp2_with (first
                  | (go_at_call 24; (with_reducible refine (HPQ.out _ _ (S3.out.go HS9.out).rd).mono ?_); rintro e w10 ⟨rfl, hb⟩; have HS10 := Lib.hid (bgo HS9.out hb); clear hb p0 p1 p2 p3 p4; obtain ⟨p0, p1, p2, p3, p4⟩ := (S3.out.go HS10.out).cells)
                  | (go_at_call 11; (with_reducible refine (hkn.out _ (bgo B3.out HS10.out)).mono ?_); rintro e w11 ⟨rfl, hb11⟩; have B11 := Lib.hid (bgo (bgo B3.out HS10.out) hb11); clear hb11))
            all_goals go_ret
            all_goals exact ⟨rfl, B11.out⟩
    | true =>
      have hg1 := (gtr_eq B A).trans hlt
      have hg2 : (!(Op.bytesLess A.toList B.toList || A.toList == B.toList)) = true := by rw [leq_eq, hlt]; rfl
      have hXY : lessK A B = false := lessK_asym hlt
      have hPQ := rnkN_mono hXY c.L 0
      have hPT := rnkN_le B c.L 0
      obtain ⟨P, hP⟩ : ∃ P : Int, P = (rnkN B 0 c.L : Nat) := ⟨_, rfl⟩
      obtain ⟨Q, hQ⟩ : ∃ Q : Int, Q = (rnkN A 0 c.L : Nat) := ⟨_, rfl⟩
      have HPX := Lib.hid (HR.out B hkB)
      have HPY := Lib.hid (HR.out A hkA)
      rw [← hP] at HPX
      rw [← hQ] at HPY
      have hdPQ : decide (Q < P) = false := decide_eq_false (by omega)
      have P0 : 0 ≤ P := by omega
      have P1 : P ≤ c.T := by have := hval.sum; omega
      by_cases hT : c.T = 0
      · have hqe : qtE c num2 15 = 17 := by unfold qtE; rw [valR_of hval, if_pos rfl, if_pos (by omega), if_pos hT]
        have hQT := Lib.hid (fun v w hv => hqt.out v w hv)
        rw [hqe] at hQT
        have HHT := Lib.hid hT
        clear hqe hqt hval hall hP hQ hPQ hPT hT
        go_enter Tryd.func8, Tryd.ntmps8
        go_upto_region 4 with (first
          | (go_at_call 10; (with_reducible refine (hsh _ (Below.refl _ _)).mono ?_); rintro e w' ⟨rfl, rfl⟩)
          | (go_at_call 13; (with_reducible refine h1.mono ?_); rintro e w3 ⟨v3, rfl, ⟨a3, n3, c3, rfl, ho3⟩, hb3⟩; have S3 := Lib.hid (SkR.new ho3); have B3 := Lib.hid (bal hb3 (.cells #[.int .i64 c.S, .int .i64 c.T, .int .i64 c.K, .slice a3 n3 c3, .bool c.s] 28)); clear h1 ho3 hb3))
        generalize w3.alloc (.cells #[.int .i64 c.S, .int .i64 c.T, .int .i64 c.K, .slice a3 n3 c3, .bool c.s] 28) = X at *
        have HS3 := Lib.hid (Below.refl X.heap.size X)
        obtain ⟨p0, p1, p2, p3, p4⟩ := S3.out.cells
        go_upto_region 14 with (first
              | (go_at_call 25; (with_reducible refine (hkeyA.out _).mono ?_); rintro e w4 ⟨rfl, hb⟩; have HS4 := Lib.hid (bgo HS3.out hb); clear hb p0 p1 p2 p3 p4; obtain ⟨p0, p1, p2, p3, p4⟩ := (S3.out.go HS4.out).cells)
              | (go_at_call 25; (with_reducible refine (hkeyB.out _).mono ?_); rintro e w5 ⟨rfl, hb⟩; have HS5 := Lib.hid (bgo HS4.out hb); clear hb p0 p1 p2 p3 p4; obtain ⟨p0, p1, p2, p3, p4⟩ := (S3.out.go HS5.out).cells)
              | (go_at_call 24; (with_reducible refine (HPX.out _ _ (S3.out.go HS5.out).rd).mono ?_); rintro e w6 ⟨rfl, hb⟩; have HS6 := Lib.hid (bgo HS5.out hb); clear hb p0 p1 p2 p3 p4; obtain ⟨p0, p1, p2, p3, p4⟩ := (S3.out.go HS6.out).cells)
              | (go_at_call 24; (with_reducible refine (HPY.out _ _ (S3.out.go HS6.out).rd).mono ?_); rintro e w7 ⟨rfl, hb⟩; have HS7 := Lib.hid (bgo HS6.out hb); clear hb p0 p1 p2 p3 p4; obtain ⟨p0, p1, p2, p3, p4⟩ := (S3.out.go HS7.out).cells)
              | (go_at_call 24; (with_reducible refine (HRT.out _ _ (S3.out.go HS7.out).rd).mono ?_); rintro e w8 ⟨rfl, hb⟩; have HS8 := Lib.hid (bgo HS7.out hb); clear hb p0 p1 p2 p3 p4; obtain ⟨p0, p1, p2, p3, p4⟩ := (S3.out.go HS8.out).cells)
              | (go_at_call 27; (with_reducible refine (hQT.out _ _ (S3.out.go HS8.out).rd).mono ?_); rintro e w9 ⟨q, rfl, -, hb⟩; have HS9 := Lib.hid (bgo HS8.out hb); clear hb p0 p1 p2 p3 p4; obtain ⟨p0, p1, p2, p3, p4⟩ := (S3.out.go HS9.out).cells))
        have hT0 : c.T = 0 := HHT.out
        rw [hT0] at p1
        clear hT0
        go_wp2_with (go_at_call 11; (with_reducible refine (hkn.out _ (bgo B3.out HS9.out)).mono ?_); rintro e w11 ⟨rfl, hb11⟩; have B11 := Lib.hid (bgo (bgo B3.out HS9.out) hb11); clear hb11)
        all_goals go_ret
        all_goals exact ⟨rfl, B11.out⟩
      · have hqe : qtE c num2 15 = 0 := by unfold qtE; rw [valR_of hval, if_pos rfl, if_pos (by omega), if_neg hT]
        have hQT := Lib.hid (fun v w hv => hqt.out v w hv)
        rw [hqe] at hQT
        have hT0 : decide (c.T = 0) = false := decide_eq_false hT
        have HQQ := Lib.hid (fun (q : ByteArray) (h : QRes c num2 15 q) => (show IsQ c.L (max (cdivN (num2 * c.T) 15) 1) q by unfold QRes lstR at h; rwa [hqe, if_pos rfl] at h))
        have HVAL := Lib.hid hval
        have t0 := hval.t0
        have t1 := hval.t1
        have hm0 : 0 ≤ num2 * c.T := Int.mul_nonneg e10 t0
        have hm1 : num2 * c.T ≤ 15 * 1099511627776 := Int.mul_le_mul e11 t1 t0 (by omega)
        have qm1 : IntKind.i64.wrap (num2 * c.T) = num2 * c.T := by rw [IntKind.wrap_i64]; omega
        have qm2 : wrap64 (num2 * c.T) = num2 * c.T := by unfold wrap64; omega
        have qp1 : IntKind.i64.wrap (P * 15) = P * 15 := by rw [IntKind.wrap_i64]; omega
        have qp2 : wrap64 (P * 15) = P * 15 := by unfold wrap64; omega
        have HP := Lib.hid hP
        clear hqe hqt hall hP hQ hPQ hPT
        go_enter Tryd.func8, Tryd.ntmps8
        go_upto_region 4 with (first
          | (go_at_call 10; (with_reducible refine (hsh _ (Below.refl _ _)).mono ?_); rintro e w' ⟨rfl, rfl⟩)
          | (go_at_call 13; (with_reducible refine h1.mono ?_); rintro e w3 ⟨v3, rfl, ⟨a3, n3, c3, rfl, ho3⟩, hb3⟩; have S3 := Lib.hid (SkR.new ho3); have B3 := Lib.hid (bal hb3 (.cells #[.int .i64 c.S, .int .i64 c.T, .int .i64 c.K, .slice a3 n3 c3, .bool c.s] 28)); clear h1 ho3 hb3))
        generalize w3.alloc (.cells #[.int .i64 c.S, .int .i64 c.T, .int .i64 c.K, .slice a3 n3 c3, .bool c.s] 28) = X at *
        have HS3 := Lib.hid (Below.refl X.heap.size X)
        obtain ⟨p0, p1, p2, p3, p4⟩ := S3.out.cells
        go_upto_region 14 with (first
              | (go_at_call 25; (with_reducible refine (hkeyA.out _).mono ?_); rintro e w4 ⟨rfl, hb⟩; have HS4 := Lib.hid (bgo HS3.out hb); clear hb p0 p1 p2 p3 p4; obtain ⟨p0, p1, p2, p3, p4⟩ := (S3.out.go HS4.out).cells)
              | (go_at_call 25; (with_reducible refine (hkeyB.out _).mono ?_); rintro e w5 ⟨rfl, hb⟩; have HS5 := Lib.hid (bgo HS4.out hb); clear hb p0 p1 p2 p3 p4; obtain ⟨p0, p1, p2, p3, p4⟩ := (S3.out.go HS5.out).cells)
              | (go_at_call 24; (with_reducible refine (HPX.out _ _ (S3.out.go HS5.out).rd).mono ?_); rintro e w6 ⟨rfl, hb⟩; have HS6 := Lib.hid (bgo HS5.out hb); clear hb p0 p1 p2 p3 p4; obtain ⟨p0, p1, p2, p3, p4⟩ := (S3.out.go HS6.out).cells)
              | (go_at_call 24; (with_reducible refine (HPY.out _ _ (S3.out.go HS6.out).rd).mono ?_); rintro e w7 ⟨rfl, hb⟩; have HS7 := Lib.hid (bgo HS6.out hb); clear hb p0 p1 p2 p3 p4; obtain ⟨p0, p1, p2, p3, p4⟩ := (S3.out.go HS7.out).cells)
              | (go_at_call 24; (with_reducible refine (HRT.out _ _ (S3.out.go HS7.out).rd).mono ?_); rintro e w8 ⟨rfl, hb⟩; have HS8 := Lib.hid (bgo HS7.out hb); clear hb p0 p1 p2 p3 p4; obtain ⟨p0, p1, p2, p3, p4⟩ := (S3.out.go HS8.out).cells)
              | (go_at_call 27; (with_reducible refine (hQT.out _ _ (S3.out.go HS8.out).rd).mono ?_); rintro e w9 ⟨q, rfl, hq, hb⟩; have HQ9 := Lib.hid (HQQ.out _ hq); clear hq; have HS9 := Lib.hid (bgo HS8.out hb); clear hb p0 p1 p2 p3 p4; obtain ⟨p0, p1, p2, p3, p4⟩ := (S3.out.go HS9.out).cells))
        have hf := order_fin (X := B) HQ9.out
        have hqk := HVAL.out.key_of HQ9.out.mem
        have hqT := rnkN_le q c.L 0
        have hsum := HVAL.out.sum
        obtain ⟨N, hN⟩ : ∃ N : Int, N = (rnkN q 0 c.L : Nat) := ⟨_, rfl⟩
        have HPQ := Lib.hid (HR.out q hqk)
        rw [← hN] at HPQ hf
        rw [← HP.out] at hf
        obtain ⟨hf1, hf2⟩ := hf
        have n1 : N ≤ c.T := by omega
        have n0 : 0 ≤ N := by omega
        clear hsum hqT hqk hN HP hval
        have qn1 : IntKind.i64.wrap (N * 15) = N * 15 := by rw [IntKind.wrap_i64]; omega
        have qn2 : wrap64 (N * 15) = N * 15 := by unfold wrap64; omega
        have hf0 : decide (num2 * c.T ≤ N * 15) = true := decide_eq_true hf1
        cases hc : lessK B q with
        | false =>
          have hc2 : Op.bytesLess B.toList q.toList = false := hc
          clear hf2 hc
          go_wp2_with (first
                | (go_at_call 24; (with_reducible refine (HPQ.out _ _ (S3.out.go HS9.out).rd).mono ?_); rintro e w10 ⟨rfl, hb⟩; have HS10 := Lib.hid (bgo HS9.out hb); clear hb p0 p1 p2 p3 p4; obtain ⟨p0, p1, p2, p3, p4⟩ := (S3.out.go HS10.out).cells)
                | (go_at_call 11; (with_reducible refine (hkn.out _ (bgo B3.out HS10.out)).mono ?_); rintro e w11 ⟨rfl, hb11⟩; have B11 := Lib.hid (bgo (bgo B3.out HS10.out) hb11); clear hb11))
          all_goals go_ret
          all_goals exact ⟨rfl, B11.out⟩
        | true =>
          have hc2 : Op.bytesLess B.toList q.toList = true := hc
          have hf3 := hf2 hc
          clear hf2 hc
          by_cases hd : P * 15 < num2 * c.T
          · have hd2 : decide (P * 15 < num2 * c.T) = true := decide_eq_true hd
            clear hd hf3
            go_wp2_with (first
                  | (go_at_call 24; (with_reducible refine (HPQ.out _ _ (S3.out.go HS9.out).rd).mono ?_); rintro e w10 ⟨rfl, hb⟩; have HS10 := Lib.hid (bgo HS9.out hb); clear hb p0 p1 p2 p3 p4; obtain ⟨p0, p1, p2, p3, p4⟩ := (S3.out.go HS10.out).cells)
                  | (go_at_call 11; (with_reducible refine (hkn.out _ (bgo B3.out HS10.out)).mono ?_); rintro e w11 ⟨rfl, hb11⟩; have B11 := Lib.hid (bgo (bgo B3.out HS10.out) hb11); clear hb11))
            all_goals go_ret
            all_goals exact ⟨rfl, B11.out⟩
          · have hd2 : decide (P * 15 < num2 * c.T) = false := decide_eq_false hd
            have hd3 : decide (P < 1) = true := decide_eq_true (hf3.resolve_left hd)
            clear hd hf3
            go_wp2_with (first
                  | (go_at_call 24; (with_reducible refine (HPQ.out _ _ (S3.out.go HS9.out).rd).mono ?_); rintro e w10 ⟨rfl, hb⟩; have HS10 := Lib.hid (bgo HS9.out hb); clear hb p0 p1 p2 p3 p4; obtain ⟨p0, p1, p2, p3, p4⟩ := (S3.out.go HS10.out).cells)
                  | (go_at_call 11; (with_reducible refine (hkn.out _ (bgo B3.out HS10.out)).mono ?_); rintro e w11 ⟨rfl, hb11⟩; have B11 := Lib.hid (bgo (bgo B3.out HS10.out) hb11); clear hb11))
            all_goals go_ret
            all_goals exact ⟨rfl, B11.out⟩
  · rw [decide_eq_false hs] at hsh
    go_enter Tryd.func8, Tryd.ntmps8
    go_wp2_with (first
      | (go_at_call 10; (with_reducible refine (hsh _ (Below.refl _ _)).mono ?_); rintro e w' ⟨rfl, rfl⟩)
      | (go_at_call 11; (with_reducible refine (hkn.out _ (Below.refl _ _)).mono ?_); rintro e w2 ⟨rfl, hb2⟩; have B2 := Lib.hid hb2; clear hb2))
    go_ret
    exact ⟨rfl, B2.out⟩
end Go.Proofs.YtdifilhfmbpalaaDoor
