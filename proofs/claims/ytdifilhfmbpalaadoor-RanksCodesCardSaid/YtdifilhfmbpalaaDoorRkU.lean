/- The contract of ranks' sum. -/
import Derived.Test.YtdifilhfmbpalaaDoorRkT
import Derived.Test.YtdifilhfmbpalaaDoorRkM
import Derived.Test.YtdifilhfmbpalaaDoorMeet
namespace Go.Proofs.YtdifilhfmbpalaaDoor
open Go.RowKit
set_option linter.unusedVariables false
set_option linter.unusedSimpArgs false
/-- The sum of two summaries, and the next position of the coins. -/
def sumK (A B : RK) (Z : List Int) (a : Int) : RK × Int :=
  if aF A.T B.T = true then (⟨A.S, A.T, A.K, A.L, true⟩, a)
  else (⟨A.S, aS A.T B.T, (stl A.S Z 0 (joinL A.L B.L) (aS A.K B.K) a).2.1, (stl A.S Z 0 (joinL A.L B.L) (aS A.K B.K) a).1, A.s || B.s⟩, (stl A.S Z 0 (joinL A.L B.L) (aS A.K B.K) a).2.2)
theorem joinL_nil (A : List (List ByteArray)) : joinL A [] = A := by
  refine ext_getD (by rw [joinL_len]; simp) (fun i hi => ?_)
  rw [joinL_at]
  simp [List.getD]
theorem rep_insN : ∀ (L : List (List ByteArray)) (n : Nat), L.length ≤ n → insN 0 ((List.range n).map fun i => L.getD i []) = insN 0 L := by
  intro L n h
  induction n with
  | zero =>
    have : L = [] := List.eq_nil_of_length_eq_zero (by omega)
    subst this
    rfl
  | succ n ih =>
    rw [List.range_succ, List.map_append, insN_app]
    by_cases hl : L.length ≤ n
    · rw [ih hl]
      simp [insN, List.getD, List.getElem?_eq_none hl]
    · have hn : L.length = n + 1 := by omega
      have e : (List.range n).map (fun i => L.getD i []) = L.take n := by
        refine ext_getD (by simp; omega) (fun i hi => ?_)
        rw [List.length_map, List.length_range] at hi
        simp [List.getD, List.getElem?_range hi, List.getElem?_take, hi]
      rw [e]
      simp only [List.map_cons, List.map_nil, List.length_take, insN]
      have h2 := insN_take (L := L) (k := n) (by omega)
      rw [List.take_of_length_le (by omega)] at h2
      rw [h2, show min n L.length = n by omega]
      simp
theorem insN_map2 (f g : Nat → List ByteArray) : ∀ n, insN 0 ((List.range n).map fun i => f i ++ g i) = insN 0 ((List.range n).map f) + insN 0 ((List.range n).map g)
  | 0 => rfl
  | n + 1 => by
    rw [List.range_succ, List.map_append, List.map_append, List.map_append, insN_app, insN_app, insN_app, insN_map2 f g n]
    simp only [List.map_cons, List.map_nil, List.length_map, List.length_range, insN, List.length_append, Nat.add_mul]
    omega
theorem insN_join (A B : List (List ByteArray)) : insN 0 (joinL A B) = insN 0 A + insN 0 B := by
  unfold joinL
  rw [insN_map2, rep_insN A _ (by omega), rep_insN B _ (by omega)]
theorem joinL_mem {A B : List (List ByteArray)} {l : List ByteArray} (h : l ∈ joinL A B) : ∃ i, l = A.getD i [] ++ B.getD i [] := by
  unfold joinL at h
  obtain ⟨i, -, rfl⟩ := List.mem_map.1 h
  exact ⟨i, rfl⟩
theorem getD_all {p : List ByteArray → Prop} {L : List (List ByteArray)} (h : ∀ l ∈ L, p l) (h0 : p []) (i : Nat) : p (L.getD i []) := by
  by_cases hi : i < L.length
  · exact h _ (getD_mem hi)
  · rw [show L.getD i [] = [] by simp [List.getD, List.getElem?_eq_none (Nat.le_of_not_lt hi)]]
    exact h0
theorem joinL_key {A B : List (List ByteArray)} (hA : ∀ l ∈ A, ∀ x ∈ l, keyB (byt x) = true) (hB : ∀ l ∈ B, ∀ x ∈ l, keyB (byt x) = true) : ∀ l ∈ joinL A B, ∀ x ∈ l, keyB (byt x) = true := by
  intro l hl x hx
  obtain ⟨i, rfl⟩ := joinL_mem hl
  rcases List.mem_append.1 hx with hx | hx
  · exact getD_all (p := fun l => ∀ x ∈ l, keyB (byt x) = true) hA (by simp) i x hx
  · exact getD_all (p := fun l => ∀ x ∈ l, keyB (byt x) = true) hB (by simp) i x hx
theorem joinL_rows {A B : List (List ByteArray)} {m n : Nat} (hA : ∀ l ∈ A, l.length ≤ m) (hB : ∀ l ∈ B, l.length ≤ n) : ∀ l ∈ joinL A B, l.length ≤ m + n := by
  intro l hl
  obtain ⟨i, rfl⟩ := joinL_mem hl
  rw [List.length_append]
  have h1 := getD_all (p := fun l => l.length ≤ m) hA (Nat.zero_le _) i
  have h2 := getD_all (p := fun l => l.length ≤ n) hB (Nat.zero_le _) i
  omega
theorem joinL_last {A B : List (List ByteArray)} (hA : lastE A = false) (hB : lastE B = false) : lastE (joinL A B) = false := by
  unfold lastE at hA hB ⊢
  rw [joinL_len, joinL_at]
  simp only [Bool.and_eq_false_iff, decide_eq_false_iff_not, List.length_append] at hA hB ⊢
  by_cases h0 : 0 < max A.length B.length
  · right
    by_cases h1 : B.length ≤ A.length
    · have e : max A.length B.length = A.length := by omega
      rw [e]
      rcases hA with h | h
      · omega
      · omega
    · have e : max A.length B.length = B.length := by omega
      rw [e]
      rcases hB with h | h
      · omega
      · omega
  · left; exact h0
theorem key_size {x : ByteArray} (h : keyB (byt x) = true) : x.size ≤ maxLen := by
  unfold keyB at h
  have := byt_len x
  simp at h
  unfold maxLen
  omega
theorem ValR.lok {S T K : Int} {L : List (List ByteArray)} (h : ValR S T K L) : LOk L :=
  ⟨by have := h.nl; omega, fun l hl => ⟨by have := (h.lv l hl).1; have := h.s1; omega, fun x hx => key_size ((h.lv l hl).2.1 x hx)⟩⟩
theorem ValR.rows {S T K : Int} {L : List (List ByteArray)} (h : ValR S T K L) : ∀ l ∈ L, l.length ≤ 31 := fun l hl => by
  have := (h.lv l hl).1
  have := h.s1
  omega
theorem aF_false {a b : Int} (h : aF a b = false) (ha : 0 ≤ a) (hb : 0 ≤ b) : a + b ≤ 1099511627776 ∧ aS a b = a + b := by
  unfold aF satF nat0 at h
  unfold aS satN nat0
  rw [decide_eq_false_iff_not] at h
  refine ⟨by omega, ?_⟩
  rw [if_neg (by omega)]
  omega
theorem aF_true {a b : Int} (h : aF a b = true) (ha : 0 ≤ a) (hb : 0 ≤ b) : 1099511627776 < a + b := by
  unfold aF satF nat0 at h
  rw [decide_eq_true_eq] at h
  omega
/-- The sum of valid summaries is valid. -/
theorem sumK_val {A B : RK} {Z : List Int} {a : Int} (vA : ValR A.S A.T A.K A.L) (vB : ValR B.S B.T B.K B.L) : ValR (sumK A B Z a).1.S (sumK A B Z a).1.T (sumK A B Z a).1.K (sumK A B Z a).1.L := by
  unfold sumK
  cases hF : aF A.T B.T with
  | true => rw [if_pos rfl]; exact vA
  | false =>
    rw [if_neg (by simp)]
    obtain ⟨hT, hT2⟩ := aF_false hF vA.t0 vB.t0
    have hb := stl_bd (C := Z) vA.s0 0 (joinL A.L B.L) (aS A.K B.K) a (aS_bd _ _).1 (aS_bd _ _).2
    have hins := stl_ins (C := Z) vA.s0 0 (joinL A.L B.L) (aS A.K B.K) a
    have hl := stl_last (C := Z) vA.s0 0 (joinL A.L B.L) (aS A.K B.K) a (joinL_last vA.ne vB.ne)
    rw [insN_join] at hins
    have hA := vA.sum
    have hB := vB.sum
    refine ⟨vA.s0, vA.s1, vA.ev, by dsimp only; have := vA.t0; have := vB.t0; omega, by dsimp only; omega, hb.1.1, hb.1.2, ?_, ?_, hl.1, ?_⟩
    · dsimp only
      apply Nat.le_of_not_lt
      intro h41
      have := last_le (i := 0) hl.1 (by omega)
      have h2 : 2 ^ 41 ≤ 2 ^ (0 + (stl A.S Z 0 (joinL A.L B.L) (aS A.K B.K) a).1.length - 1) := Nat.pow_le_pow_right (by decide) (by omega)
      have h3 : (2 : Nat) ^ 41 = 2199023255552 := by decide
      omega
    · exact stl_gd vA.s0 0 _ _ _ (joinL_key (fun l hl x hx => (vA.lv l hl).2.1 x hx) (fun l hl x hx => (vB.lv l hl).2.1 x hx))
    · dsimp only
      rw [hins, hT2]
      omega
theorem RdL.none_ (w : World) : RdL [] (.slice none 0 0) w := ⟨[], (OwnV.empty 0 w).rd, rfl, fun j hj => by cases hj⟩
theorem heap3 (o p q : Obj) (w : World) : (((w.alloc o).alloc p).alloc q).heap.size = w.heap.size + 1 + 1 + 1 := by simp
theorem RsS.new1 (S T K : Int) (v : Value) (s : Bool) (t : TypeId) (p q : Obj) (w : World) : RsS w.heap.size S T K v s (((w.alloc (.cells #[.int .i64 S, .int .i64 T, .int .i64 K, v, .bool s] t)).alloc p).alloc q) := (RsS.new S T K v s t w).go (b2 p q)
theorem RsS.new2 (S T K : Int) (v : Value) (s : Bool) (t : TypeId) (o q : Obj) (w : World) : RsS (w.heap.size + 1) S T K v s (((w.alloc o).alloc (.cells #[.int .i64 S, .int .i64 T, .int .i64 K, v, .bool s] t)).alloc q) := by
  have h := (RsS.new S T K v s t (w.alloc o)).go (b1 q)
  rw [show (w.alloc o).heap.size = w.heap.size + 1 by simp] at h
  exact h
theorem RsS.new3 (S T K : Int) (v : Value) (s : Bool) (t : TypeId) (o p : Obj) (w : World) : RsS (w.heap.size + 1 + 1) S T K v s (((w.alloc o).alloc p).alloc (.cells #[.int .i64 S, .int .i64 T, .int .i64 K, v, .bool s] t)) := by
  have h := RsS.new S T K v s t ((w.alloc o).alloc p)
  rw [show ((w.alloc o).alloc p).heap.size = w.heap.size + 1 + 1 by simp] at h
  exact h
/-- A flipper behind three new blocks, and new levels behind it. -/
theorem HS.first {o p q : Obj} {vc : Value} {a K : Int} {C : List (List ByteArray)} {us : List Value} {g c : Nat} {w w2 : World} (hb : Below ((((w.alloc o).alloc p).alloc q).alloc (.cells #[vc, .int .i64 a, .int .i64 K] 95)).heap.size ((((w.alloc o).alloc p).alloc q).alloc (.cells #[vc, .int .i64 a, .int .i64 K] 95)) w2)
    (ho : OwnL ((((w.alloc o).alloc p).alloc q).alloc (.cells #[vc, .int .i64 a, .int .i64 K] 95)).heap.size C us (.slice (some ⟨g, 0, none⟩) C.length c) w2) : HS (((w.alloc o).alloc p).alloc q) (w.heap.size + 1 + 1 + 1) vc a K g c C us w2 := by
  have h := (FlS.new vc a K (((w.alloc o).alloc p).alloc q)).go hb
  rw [heap3] at h
  exact ⟨h, ho.mono (by simp), bgo (b1 _) hb, by simp⟩
/-- Levels that stay readable whatever turns below block B. -/
def RdU (B : Nat) (L : List (List ByteArray)) (us : List Value) (v : Value) (w : World) : Prop := ∀ w' : World, w.heap.size ≤ w'.heap.size → (∀ g, B ≤ g → g < w.heap.size → w'.heap[g]? = w.heap[g]?) → RdV us v w' ∧ AllR L us w'
def RdB (B : Nat) (L : List (List ByteArray)) (v : Value) (w : World) : Prop := ∃ us, RdU B L us v w
theorem RdB.rd {B : Nat} {L : List (List ByteArray)} {v : Value} {w : World} (h : RdB B L v w) : RdL L v w := by
  obtain ⟨us, h⟩ := h
  exact ⟨us, h w (Nat.le_refl _) (fun _ _ _ => rfl)⟩
theorem RdU.keep {B : Nat} {L : List (List ByteArray)} {us : List Value} {v : Value} {w w1 : World} (h : RdU B L us v w) (hs : w.heap.size ≤ w1.heap.size) (hk : ∀ g, B ≤ g → g < w.heap.size → w1.heap[g]? = w.heap[g]?) : RdU B L us v w1 :=
  fun w' h1 h2 => h w' (Nat.le_trans hs h1) (fun g hg hl => (h2 g hg (Nat.lt_of_lt_of_le hl hs)).trans (hk g hg hl))
theorem RdB.keep {B : Nat} {L : List (List ByteArray)} {v : Value} {w w1 : World} (h : RdB B L v w) (hs : w.heap.size ≤ w1.heap.size) (hk : ∀ g, B ≤ g → g < w.heap.size → w1.heap[g]? = w.heap[g]?) : RdB B L v w1 := by
  obtain ⟨us, h⟩ := h
  exact ⟨us, h.keep hs hk⟩
theorem RdB.below {B : Nat} {L : List (List ByteArray)} {v : Value} {w w1 : World} (h : RdB B L v w) (hb : Below w.heap.size w w1) : RdB B L v w1 := h.keep hb.size (fun g _ hl => hb.block g hl)
theorem RdB.under {B b o : Nat} {L : List (List ByteArray)} {v x : Value} {w : World} (h : RdB B L v w) (hb : b < B) : RdB B L v (w.setCell ⟨b, o, none⟩ x) := h.keep (by simp) (fun g hg _ => Below.heap_setCell _ ⟨b, o, none⟩ _ _ (fun e => by simp at e; omega))
theorem RdB.mono {B B' : Nat} {L : List (List ByteArray)} {v : Value} {w : World} (h : RdB B L v w) (hB : B' ≤ B) : RdB B' L v w := by
  obtain ⟨us, h⟩ := h
  exact ⟨us, fun w' h1 h2 => h w' h1 (fun g hg hl => h2 g (Nat.le_trans hB hg) hl)⟩
theorem OwnL.rb {B : Nat} {L : List (List ByteArray)} {us : List Value} {v : Value} {w : World} (h : OwnL B L us v w) : RdB B L v w := ⟨us, fun w' h1 h2 => ⟨(h.keep h2).1.rd, (h.keep h2).2.1.rd⟩⟩
theorem RdB.none_ (B : Nat) (w : World) : RdB B [] (.slice none 0 0) w := ⟨[], fun w' _ _ => ⟨(OwnV.empty 0 w').rd, rfl, fun j hj => by cases hj⟩⟩
def RbR (B : Nat) (t : RK) (v : Value) (w : World) : Prop := ∃ a n cap, v = .agg #[.int .i64 t.S, .int .i64 t.T, .int .i64 t.K, .slice a n cap, .bool t.s] ∧ RdB B t.L (.slice a n cap) w
theorem RbR.rd {B : Nat} {t : RK} {v : Value} {w : World} (h : RbR B t v w) : RdR t v w := by
  obtain ⟨a, n, c, rfl, h⟩ := h
  exact ⟨a, n, c, rfl, h.rd⟩
theorem RbR.below {B : Nat} {t : RK} {v : Value} {w w' : World} (h : RbR B t v w) (hb : Below w.heap.size w w') : RbR B t v w' := by
  obtain ⟨a, n, c, rfl, h⟩ := h
  exact ⟨a, n, c, rfl, h.below hb⟩
theorem RbR.mono {B B' : Nat} {t : RK} {v : Value} {w : World} (h : RbR B t v w) (hB : B' ≤ B) : RbR B' t v w := by
  obtain ⟨a, n, c, rfl, h⟩ := h
  exact ⟨a, n, c, rfl, h.mono hB⟩
theorem RbR.under {B b o : Nat} {t : RK} {v x : Value} {w : World} (h : RbR B t v w) (hb : b < B) : RbR B t v (w.setCell ⟨b, o, none⟩ x) := by
  obtain ⟨a, n, c, rfl, h⟩ := h
  exact ⟨a, n, c, rfl, h.under hb⟩
theorem RbR.run {B : Nat} {t : RK} {v : Value} {w : World} (h : RbR B t v w) : ∃ a c, v = .agg #[.int .i64 t.S, .int .i64 t.T, .int .i64 t.K, .slice a t.L.length c, .bool t.s] ∧ RdB B t.L (.slice a t.L.length c) w := by
  obtain ⟨a, n, c, rfl, h⟩ := h
  obtain ⟨a', c', he⟩ := h.rd.shape
  simp only [Value.slice.injEq] at he
  obtain ⟨rfl, rfl, rfl⟩ := he
  exact ⟨a, c, rfl, h⟩
theorem RsS.put3 {g : Nat} {S T K : Int} {v : Value} {s : Bool} {w : World} (h : RsS g S T K v s w) (u : Value) : RsS g S T K u s (w.setCell ⟨g, 3, none⟩ u) := by
  obtain ⟨⟨h0, h1, h2, h3, h4⟩, f0, f1, f2, f3, f4⟩ := h
  exact ⟨⟨by go_simp, by go_simp, by go_simp, by go_simp, by go_simp⟩, by go_simp, by go_simp, by go_simp, by go_simp, by go_simp⟩
/-- Levels are settled and lie in the result. -/
def SU (w W0 : World) (gt gf : Nat) (S T : Int) (sr : Bool) (vc : Value) (R : List (List ByteArray) × Int × Int) (w4 : World) : Prop :=
  ∃ g c us, RsS gt S T 0 (.slice (some ⟨g, 0, none⟩) R.1.length c) sr w4 ∧ FlS gf vc R.2.2 R.2.1 w4 ∧ OwnL W0.heap.size R.1 us (.slice (some ⟨g, 0, none⟩) R.1.length c) w4 ∧ Below w.heap.size w w4
theorem SU.mk {w W0 : World} {gt gf : Nat} {S T : Int} {sr : Bool} {vc : Value} {R : List (List ByteArray) × Int × Int} {w3 : World} {g c : Nat} {us : List Value} (hr : RsS gt S T 0 (.slice none 0 0) sr w3) (hs : HS W0 gf vc R.2.2 R.2.1 g c R.1 us w3) (h1 : gt < W0.heap.size) (h2 : gt ≠ gf) (h3 : w.heap.size ≤ gt) (hb : Below w.heap.size w W0) :
    SU w W0 gt gf S T sr vc R (w3.setCell ⟨gt, 3, none⟩ (.slice (some ⟨g, 0, none⟩) R.1.length c)) :=
  ⟨g, c, us, hr.put3 _, hs.fl.keep (Below.heap_setCell _ ⟨gt, 3, none⟩ _ _ (fun e => h2 e.symm)), hs.own.under h1, bset (bgo hb hs.bel) _ _ _ h3⟩
theorem SU.go {w W0 : World} {gt gf : Nat} {S T : Int} {sr : Bool} {vc : Value} {R : List (List ByteArray) × Int × Int} {w3 w4 : World} (h : SU w W0 gt gf S T sr vc R w3) (hb : Below w3.heap.size w3 w4) : SU w W0 gt gf S T sr vc R w4 := by
  obtain ⟨g, c, us, h1, h2, h3, h4⟩ := h
  exact ⟨g, c, us, h1.go hb, h2.go hb, h3.below hb, bgo h4 hb⟩
theorem RdR.run {t : RK} {v : Value} {w : World} (h : RdR t v w) : ∃ a c, v = .agg #[.int .i64 t.S, .int .i64 t.T, .int .i64 t.K, .slice a t.L.length c, .bool t.s] ∧ RdL t.L (.slice a t.L.length c) w := by
  obtain ⟨a, n, c, rfl, h⟩ := h
  obtain ⟨a', c', he⟩ := h.shape
  simp only [Value.slice.injEq] at he
  obtain ⟨rfl, rfl, rfl⟩ := he
  exact ⟨a, c, rfl, h⟩
set_option maxRecDepth 100000 in
set_option maxHeartbeats 4000000 in
theorem sum_any (A B : RK) (va vb vc : Value) (Z : List Int) (a : Int) (w : World) (hA : RdR A va w) (hB : RdR B vb w) (hZ : Rd Z vc w) (vA : ValR A.S A.T A.K A.L) (vB : ValR B.S B.T B.K B.L) (a0 : 0 ≤ a) (a1 : a ≤ 1073741824) :
    Calls Tryd.prog 35 #[va, vb, vc, .int .i64 a] w fun e w' => ∃ v, e = .returned (.tuple #[v, .int .i64 (sumK A B Z a).2]) ∧ RbR w.heap.size (sumK A B Z a).1 v w' ∧ Below w.heap.size w w' := by
  obtain ⟨aa, ca, rfl, hA2⟩ := hA.run
  obtain ⟨ab, cb, rfl, hB2⟩ := hB.run
  have HA := Lib.hid hA2
  have HB := Lib.hid hB2
  obtain ⟨av, cv, rfl⟩ : ∃ av cv, vc = .slice av Z.length cv := by obtain ⟨-, av, cv, h, -⟩ := hZ; exact ⟨av, cv, h⟩
  have HZ := Lib.hid hZ
  have HVA := Lib.hid vA
  have HVB := Lib.hid vB
  have t0 := vA.t0
  have t1 := vA.t1
  have t2 := vB.t0
  have t3 := vB.t1
  have k0 := vA.k0
  have k1 := vA.k1
  have k2 := vB.k0
  have k3 := vB.k1
  have HAD1 : Hid (∀ w1, Calls Tryd.prog 67 #[.int .i64 A.T, .int .i64 B.T, .int .i64 1099511627776] w1 fun e w' => e = .returned (.tuple #[.int .i64 (aS A.T B.T), .bool (aF A.T B.T)]) ∧ w1 = w') := Lib.hid (fun w1 => add_any A.T B.T 1099511627776 w1 (by omega) (by omega) (by omega) (by omega) (by decide) (by decide))
  have HAD2 : Hid (∀ w1, Calls Tryd.prog 67 #[.int .i64 A.K, .int .i64 B.K, .int .i64 1099511627776] w1 fun e w' => e = .returned (.tuple #[.int .i64 (aS A.K B.K), .bool (aF A.K B.K)]) ∧ w1 = w') := Lib.hid (fun w1 => add_any A.K B.K 1099511627776 w1 (by omega) (by omega) (by omega) (by omega) (by decide) (by decide))
  clear hA hB hA2 hB2 hZ vA vB
  cases hF : aF A.T B.T with
  | true =>
    rw [hF] at HAD1
    have HSK : Hid (sumK A B Z a = (⟨A.S, A.T, A.K, A.L, true⟩, a)) := Lib.hid (by unfold sumK; rw [if_pos hF])
    rw [HSK.out]
    clear hF
    have HJN := Lib.hid (fun w1 (hb : Below w.heap.size w w1) => join_any A.L [] (.slice aa A.L.length ca) (.slice none 0 0) w1 (HA.out.below hb) (RdL.none_ w1) HVA.out.lok ⟨by simp, by simp⟩)
    rw [joinL_nil] at HJN
    cases hs : A.s
    all_goals
      go_enter Tryd.func35, Tryd.ntmps35
      go_wp2_with (go_at_call 67; refine (HAD1.out _).mono ?_; rintro e w2 ⟨rfl, rfl⟩)
      go_region
      all_goals
        go_wp2_with (go_at_call 68; refine (HJN.out _ (b3 _ _ _).drew).mono ?_; rintro e w2 ⟨us, g, c, rfl, ho, hb⟩; obtain ⟨⟨o0, o1, o2, o3, o4⟩, y0, y1, y2, y3, y4⟩ := (RsS.new3 _ _ _ _ _ _ _ _ _).go ((Below.refl _ _).drew.trans hb); have HO := Lib.hid (ho.mono (B' := w.heap.size + 1 + 1 + 1) (Nat.le_of_eq (heap3 _ _ _ w).symm)); have HB2 := Lib.hid (bgo (b3 _ _ _).drew hb); clear ho hb)
        refine bodyPost_ret (v := .tuple #[.agg #[.int .i64 A.S, .int .i64 A.T, .int .i64 A.K, .slice (some ⟨g, 0, none⟩) A.L.length c, .bool true], .int .i64 a]) (by simp [results, Tryd.results35, go_sem, *]) rfl ⟨_, rfl, ⟨_, _, _, rfl, ?_⟩, ?_⟩
        · have l3 : w.heap.size + 1 + 1 < w.heap.size + 1 + 1 + 1 := Nat.lt_succ_self _
          exact (OwnL.rb ((((((HO.out.under l3).under l3).under l3).under l3).under l3).under l3)).mono (by omega)
        · have l3 : w.heap.size ≤ w.heap.size + 1 + 1 := by omega
          exact bset (bset (bset (bset (bset (bset HB2.out _ _ _ l3) _ _ _ l3) _ _ _ l3) _ _ _ l3) _ _ _ l3) _ _ _ l3
  | false =>
    rw [hF] at HAD1
    have HSK : Hid (sumK A B Z a = (⟨A.S, aS A.T B.T, (stl A.S Z 0 (joinL A.L B.L) (aS A.K B.K) a).2.1, (stl A.S Z 0 (joinL A.L B.L) (aS A.K B.K) a).1, A.s || B.s⟩, (stl A.S Z 0 (joinL A.L B.L) (aS A.K B.K) a).2.2)) := Lib.hid (by unfold sumK; rw [if_neg (by rw [hF]; simp)])
    rw [HSK.out]
    have hT := aF_false hF t0 t2
    have hsum : insN 0 (joinL A.L B.L) ≤ 1099511627776 := by
      rw [insN_join]
      have h1 := HVA.out.sum
      have h2 := HVB.out.sum
      omega
    have HJN := Lib.hid (fun w1 (hb : Below w.heap.size w w1) => join_any A.L B.L (.slice aa A.L.length ca) (.slice ab B.L.length cb) w1 (HA.out.below hb) (HB.out.below hb) HVA.out.lok HVB.out.lok)
    have hjl : (joinL A.L B.L).length ≤ 41 := by
      rw [joinL_len]
      have := HVA.out.nl
      have := HVB.out.nl
      omega
    have HST := Lib.hid (fun (W : World) gf g c us w1 (h : HS W gf (.slice av Z.length cv) a (aS A.K B.K) g c (joinL A.L B.L) us w1) (hz : Rd Z (.slice av Z.length cv) W) => settle_any W gf (.slice av Z.length cv) Z A.S a (aS A.K B.K) g c (joinL A.L B.L) us w1 h hz HVA.out.s0 HVA.out.s1 a0 a1 (aS_bd _ _).1 (aS_bd _ _).2 hsum (joinL_rows HVA.out.rows HVB.out.rows) hjl)
    clear hF hsum hjl hT
    generalize joinL A.L B.L = J at *
    generalize stl A.S Z 0 J (aS A.K B.K) a = R at *
    generalize aS A.K B.K = KK at *
    generalize aS A.T B.T = TT at *
    cases hs : A.s
    case false =>
      go_enter Tryd.func35, Tryd.ntmps35
      go_wp2_with (first
        | (go_at_call 67; (with_reducible refine (HAD1.out _).mono ?_); rintro e w2 ⟨rfl, rfl⟩)
        | (go_at_call 67; (with_reducible refine (HAD2.out _).mono ?_); rintro e w2 ⟨rfl, rfl⟩))
      obtain ⟨W0, hW0⟩ : ∃ W0, (((w.alloc (.cells #[.int .i64 A.S, .int .i64 A.T, .int .i64 A.K, .slice aa A.L.length ca, .bool false] 28)).alloc (.cells #[.int .i64 B.S, .int .i64 B.T, .int .i64 B.K, .slice ab B.L.length cb, .bool B.s] 28)).alloc (.cells #[.int .i64 A.S, .int .i64 TT, .int .i64 0, .slice none 0 0, .bool B.s] 28)) = W0 := ⟨_, rfl⟩
      have R1 : RsS w.heap.size A.S A.T A.K (.slice aa A.L.length ca) false W0 := by rw [← hW0]; exact RsS.new1 _ _ _ _ _ _ _ _ _
      have R2 : RsS (w.heap.size + 1) B.S B.T B.K (.slice ab B.L.length cb) B.s W0 := by rw [← hW0]; exact RsS.new2 _ _ _ _ _ _ _ _ _
      have HR3 : Hid (RsS (w.heap.size + 1 + 1) A.S TT 0 (.slice none 0 0) B.s W0) := Lib.hid (by rw [← hW0]; exact RsS.new3 _ _ _ _ _ _ _ _ _)
      have HB0 : Hid (Below w.heap.size w W0) := Lib.hid (by rw [← hW0]; exact b3 _ _ _)
      have HS0 : Hid (W0.heap.size = w.heap.size + 1 + 1 + 1) := Lib.hid (by rw [← hW0]; exact heap3 _ _ _ _)
      rw [hW0]
      clear hW0
      obtain ⟨W9, hW9⟩ : ∃ W9, W0.alloc (.cells #[.slice av Z.length cv, .int .i64 a, .int .i64 KK] 95) = W9 := ⟨_, rfl⟩
      have HB9 : Hid (Below w.heap.size w W9) := Lib.hid (by rw [← hW9]; exact bal HB0.out _)
      have HR1 : Hid (RsS w.heap.size A.S A.T A.K (.slice aa A.L.length ca) false W9) := Lib.hid (by rw [← hW9]; exact R1.go (b1 _))
      have HR2 : Hid (RsS (w.heap.size + 1) B.S B.T B.K (.slice ab B.L.length cb) B.s W9) := Lib.hid (by rw [← hW9]; exact R2.go (b1 _))
      have HFS : Hid (∀ us g c w2, Below W9.heap.size W9 w2 → OwnL W9.heap.size J us (.slice (some ⟨g, 0, none⟩) J.length c) w2 → HS W0 (w.heap.size + 1 + 1 + 1) (.slice av Z.length cv) a KK g c J us w2) := Lib.hid (fun us g c w2 hb ho => by
        subst hW9
        have h := (FlS.new (.slice av Z.length cv) a KK W0).go hb
        rw [HS0.out] at h
        exact ⟨h, ho.mono (by simp), bgo (b1 _) hb, by rw [HS0.out]; exact Nat.le_refl _⟩)
      rw [hW9]
      clear hW9 R1 R2
      have HZ0 := Lib.hid (HZ.out.below HB0.out)
      clear HZ HA HB HAD1 HAD2 HSK HVA HVB
      obtain ⟨⟨q0, -, -, q3, -⟩, -⟩ := HR1.out
      obtain ⟨⟨-, -, -, q5, -⟩, -⟩ := HR2.out
      have L3 : Hid (w.heap.size + 1 + 1 < W0.heap.size) := Lib.hid (by rw [HS0.out]; exact Nat.lt_succ_self _)
      refine wp_meet 60 9 (fun wx => Hid (SU w W0 (w.heap.size + 1 + 1) (w.heap.size + 1 + 1 + 1) A.S TT B.s (.slice av Z.length cv) R wx)) ?_ ?_
      · intro G hG
        go_region_law (first
          | ((try go_simp); go_at_call 68; (with_reducible refine (HJN.out _ HB9.out.drew).mono ?_); rintro e w2 ⟨us, g, c, rfl, ho, hb⟩; obtain ⟨⟨o0, -, -, o3, -⟩, -⟩ := HR1.out.go ((Below.refl _ _).drew.trans hb); have HS2 := Lib.hid (HFS.out _ _ _ _ ((Below.refl _ _).drew.trans hb) ho); clear ho hb q0 q3 q5 HJN)
          | ((try go_simp); go_at_call 69; (with_reducible refine (HST.out _ _ _ _ _ _ HS2.out HZ0.out).mono ?_); rintro e w3 ⟨g3, c3, us3, rfl, hs3⟩; obtain ⟨⟨z0, z1, z2, z3, z4⟩, y0, y1, y2, y3, y4⟩ := HR3.out.go hs3.bel; obtain ⟨⟨p0, p1, p2⟩, x0, x1, x2⟩ := hs3.fl.cells; have HS3 := Lib.hid hs3; clear hs3 HST))
        all_goals
          first
            | exact hG _ _ ⟨[_, _, _, _, _, _, _, _, _], rfl, rfl⟩ (Lib.hid (SU.mk (HR3.out.go HS3.out.bel) HS3.out L3.out (by omega) (by omega) HB0.out))
            | exact hG _ _ ⟨[_, _, _, _, _, _, _, _, _], rfl, rfl⟩ (Lib.hid ((SU.mk (HR3.out.go HS3.out.bel) HS3.out L3.out (by omega) (by omega) HB0.out).go (Below.refl _ _).drew))
      · clear HR1 HR2 HR3 HS0 HB0 HFS HB9 HZ0 HJN HST q0 q3 q5
        intro a' wz hoff HX
        obtain ⟨us, hus, rfl⟩ := hoff
        match us, hus with
        | [u0, u1, u2, u3, u4, u5, u6, u7, u8], _ =>
          simp only [List.take_succ_cons, List.take_zero, List.drop_succ_cons, List.drop_zero, List.cons_append, List.nil_append]
          obtain ⟨g3, c3, us3, hr, hf, ho, hb⟩ := HX.out
          obtain ⟨⟨z0, z1, z2, z3, z4⟩, y0, y1, y2, y3, y4⟩ := hr
          obtain ⟨⟨p0, p1, p2⟩, x0, x1, x2⟩ := hf.cells
          have HO := Lib.hid ho
          have HB := Lib.hid hb
          clear HX hf ho hb
          go_wp2
          go_region
          all_goals
            go_wp2
            refine bodyPost_ret (v := .tuple #[.agg #[.int .i64 A.S, .int .i64 TT, .int .i64 R.2.1, .slice (some ⟨g3, 0, none⟩) R.1.length c3, .bool B.s], .int .i64 R.2.2]) (by simp [results, Tryd.results35, go_sem, *]) rfl ⟨_, rfl, ⟨_, _, _, (by first | rfl | simp), ?_⟩, ?_⟩
            · have l3 := L3.out
              exact ((OwnL.rb ((((((HO.out.under l3).under l3).under l3).under l3).under l3).under l3)).below (Below.refl _ _).drew).mono (by omega)
            · have l3 : w.heap.size ≤ w.heap.size + 1 + 1 := by omega
              exact (bset (bset (bset (bset (bset (bset HB.out _ _ _ l3) _ _ _ l3) _ _ _ l3) _ _ _ l3) _ _ _ l3) _ _ _ l3).drew
    case true =>
      go_enter Tryd.func35, Tryd.ntmps35
      go_wp2_with (first
        | (go_at_call 67; (with_reducible refine (HAD1.out _).mono ?_); rintro e w2 ⟨rfl, rfl⟩)
        | (go_at_call 67; (with_reducible refine (HAD2.out _).mono ?_); rintro e w2 ⟨rfl, rfl⟩))
      obtain ⟨W0, hW0⟩ : ∃ W0, (((w.alloc (.cells #[.int .i64 A.S, .int .i64 A.T, .int .i64 A.K, .slice aa A.L.length ca, .bool true] 28)).alloc (.cells #[.int .i64 B.S, .int .i64 B.T, .int .i64 B.K, .slice ab B.L.length cb, .bool B.s] 28)).alloc (.cells #[.int .i64 A.S, .int .i64 TT, .int .i64 0, .slice none 0 0, .bool true] 28)) = W0 := ⟨_, rfl⟩
      have R1 : RsS w.heap.size A.S A.T A.K (.slice aa A.L.length ca) true W0 := by rw [← hW0]; exact RsS.new1 _ _ _ _ _ _ _ _ _
      have R2 : RsS (w.heap.size + 1) B.S B.T B.K (.slice ab B.L.length cb) B.s W0 := by rw [← hW0]; exact RsS.new2 _ _ _ _ _ _ _ _ _
      have HR3 : Hid (RsS (w.heap.size + 1 + 1) A.S TT 0 (.slice none 0 0) true W0) := Lib.hid (by rw [← hW0]; exact RsS.new3 _ _ _ _ _ _ _ _ _)
      have HB0 : Hid (Below w.heap.size w W0) := Lib.hid (by rw [← hW0]; exact b3 _ _ _)
      have HS0 : Hid (W0.heap.size = w.heap.size + 1 + 1 + 1) := Lib.hid (by rw [← hW0]; exact heap3 _ _ _ _)
      rw [hW0]
      clear hW0
      obtain ⟨W9, hW9⟩ : ∃ W9, W0.alloc (.cells #[.slice av Z.length cv, .int .i64 a, .int .i64 KK] 95) = W9 := ⟨_, rfl⟩
      have HB9 : Hid (Below w.heap.size w W9) := Lib.hid (by rw [← hW9]; exact bal HB0.out _)
      have HR1 : Hid (RsS w.heap.size A.S A.T A.K (.slice aa A.L.length ca) true W9) := Lib.hid (by rw [← hW9]; exact R1.go (b1 _))
      have HR2 : Hid (RsS (w.heap.size + 1) B.S B.T B.K (.slice ab B.L.length cb) B.s W9) := Lib.hid (by rw [← hW9]; exact R2.go (b1 _))
      have HFS : Hid (∀ us g c w2, Below W9.heap.size W9 w2 → OwnL W9.heap.size J us (.slice (some ⟨g, 0, none⟩) J.length c) w2 → HS W0 (w.heap.size + 1 + 1 + 1) (.slice av Z.length cv) a KK g c J us w2) := Lib.hid (fun us g c w2 hb ho => by
        subst hW9
        have h := (FlS.new (.slice av Z.length cv) a KK W0).go hb
        rw [HS0.out] at h
        exact ⟨h, ho.mono (by simp), bgo (b1 _) hb, by rw [HS0.out]; exact Nat.le_refl _⟩)
      rw [hW9]
      clear hW9 R1 R2
      have HZ0 := Lib.hid (HZ.out.below HB0.out)
      clear HZ HA HB HAD1 HAD2 HSK HVA HVB
      obtain ⟨⟨q0, -, -, q3, -⟩, -⟩ := HR1.out
      obtain ⟨⟨-, -, -, q5, -⟩, -⟩ := HR2.out
      have L3 : Hid (w.heap.size + 1 + 1 < W0.heap.size) := Lib.hid (by rw [HS0.out]; exact Nat.lt_succ_self _)
      refine wp_meet 60 9 (fun wx => Hid (SU w W0 (w.heap.size + 1 + 1) (w.heap.size + 1 + 1 + 1) A.S TT true (.slice av Z.length cv) R wx)) ?_ ?_
      · intro G hG
        go_region_law (first
          | ((try go_simp); go_at_call 68; (with_reducible refine (HJN.out _ HB9.out.drew).mono ?_); rintro e w2 ⟨us, g, c, rfl, ho, hb⟩; obtain ⟨⟨o0, -, -, o3, -⟩, -⟩ := HR1.out.go ((Below.refl _ _).drew.trans hb); have HS2 := Lib.hid (HFS.out _ _ _ _ ((Below.refl _ _).drew.trans hb) ho); clear ho hb q0 q3 q5 HJN)
          | ((try go_simp); go_at_call 69; (with_reducible refine (HST.out _ _ _ _ _ _ HS2.out HZ0.out).mono ?_); rintro e w3 ⟨g3, c3, us3, rfl, hs3⟩; obtain ⟨⟨z0, z1, z2, z3, z4⟩, y0, y1, y2, y3, y4⟩ := HR3.out.go hs3.bel; obtain ⟨⟨p0, p1, p2⟩, x0, x1, x2⟩ := hs3.fl.cells; have HS3 := Lib.hid hs3; clear hs3 HST))
        all_goals
          first
            | exact hG _ _ ⟨[_, _, _, _, _, _, _, _, _], rfl, rfl⟩ (Lib.hid (SU.mk (HR3.out.go HS3.out.bel) HS3.out L3.out (by omega) (by omega) HB0.out))
            | exact hG _ _ ⟨[_, _, _, _, _, _, _, _, _], rfl, rfl⟩ (Lib.hid ((SU.mk (HR3.out.go HS3.out.bel) HS3.out L3.out (by omega) (by omega) HB0.out).go (Below.refl _ _).drew))
      · clear HR1 HR2 HR3 HS0 HB0 HFS HB9 HZ0 HJN HST q0 q3 q5
        intro a' wz hoff HX
        obtain ⟨us, hus, rfl⟩ := hoff
        match us, hus with
        | [u0, u1, u2, u3, u4, u5, u6, u7, u8], _ =>
          simp only [List.take_succ_cons, List.take_zero, List.drop_succ_cons, List.drop_zero, List.cons_append, List.nil_append]
          obtain ⟨g3, c3, us3, hr, hf, ho, hb⟩ := HX.out
          obtain ⟨⟨z0, z1, z2, z3, z4⟩, y0, y1, y2, y3, y4⟩ := hr
          obtain ⟨⟨p0, p1, p2⟩, x0, x1, x2⟩ := hf.cells
          have HO := Lib.hid ho
          have HB := Lib.hid hb
          clear HX hf ho hb
          go_wp2
          go_region
          all_goals
            go_wp2
            refine bodyPost_ret (v := .tuple #[.agg #[.int .i64 A.S, .int .i64 TT, .int .i64 R.2.1, .slice (some ⟨g3, 0, none⟩) R.1.length c3, .bool true], .int .i64 R.2.2]) (by simp [results, Tryd.results35, go_sem, *]) rfl ⟨_, rfl, ⟨_, _, _, (by first | rfl | simp), ?_⟩, ?_⟩
            · have l3 := L3.out
              exact ((OwnL.rb ((((((HO.out.under l3).under l3).under l3).under l3).under l3).under l3)).below (Below.refl _ _).drew).mono (by omega)
            · have l3 : w.heap.size ≤ w.heap.size + 1 + 1 := by omega
              exact (bset (bset (bset (bset (bset (bset HB.out _ _ _ l3) _ _ _ l3) _ _ _ l3) _ _ _ l3) _ _ _ l3) _ _ _ l3).drew
end Go.Proofs.YtdifilhfmbpalaaDoor
