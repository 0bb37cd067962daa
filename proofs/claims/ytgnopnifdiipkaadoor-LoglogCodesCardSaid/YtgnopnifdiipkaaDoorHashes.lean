/- MixNums, Mix, Tabs, Hash: in one text. -/
import Derived.Test.YtgnopnifdiipkaaDoorProg
import Derived.WalkKit
import Derived.Laws.BitsAllLaws
import Derived.ProofKit
import Derived.Handy
import Derived.Lib.Hide
namespace Go.Proofs.YtgnopnifdiipkaaDoor
open Go.RowKit
set_option linter.unusedVariables false
set_option linter.unusedSimpArgs false
/-- x ^= x >> k, by its divisor. -/
def xs (d x : Int) : Int := bits .xor .u64 x (x / d)
def mul1 (x : Int) : Int := IntKind.u64.wrap (x * 13787848793156543929)
def mul2 (x : Int) : Int := IntKind.u64.wrap (x * 10723151780598845931)
def mixI (x : Int) : Int := xs 2147483648 (mul2 (xs 134217728 (mul1 (xs 1073741824 x))))
theorem wrap_bd (x : Int) : 0 ≤ IntKind.u64.wrap x ∧ IntKind.u64.wrap x ≤ 18446744073709551615 := by
  rw [IntKind.wrap_u64]; omega
theorem xor_bd (a b : Int) (a0 : 0 ≤ a) (a1 : a ≤ 18446744073709551615) (b0 : 0 ≤ b) (b1 : b ≤ 18446744073709551615) : 0 ≤ bits .xor .u64 a b ∧ bits .xor .u64 a b ≤ 18446744073709551615 := by
  rw [u64_xor a b a0 (by omega) b0 (by omega)]
  have h : a.toNat ^^^ b.toNat < 2 ^ 64 := Nat.xor_lt_two_pow (by omega) (by omega)
  omega
theorem xs_nat (k x : Nat) (h : x < 18446744073709551616) : xs ((2 ^ k : Nat) : Int) (x : Int) = ((x ^^^ (x >>> k) : Nat) : Int) := by
  have h1 : x / 2 ^ k ≤ x := Nat.div_le_self _ _
  have e : (x : Int) / ((2 ^ k : Nat) : Int) = ((x / 2 ^ k : Nat) : Int) := by simp
  unfold xs
  rw [e, u64_xor_nat x (x / 2 ^ k) h (by omega), Nat.shiftRight_eq_div_pow]
theorem xs_bd (k : Nat) (x : Int) (x0 : 0 ≤ x) (x1 : x ≤ 18446744073709551615) : 0 ≤ xs ((2 ^ k : Nat) : Int) x ∧ xs ((2 ^ k : Nat) : Int) x ≤ 18446744073709551615 := by
  obtain ⟨n, rfl⟩ : ∃ n : Nat, x = (n : Int) := ⟨x.toNat, by omega⟩
  rw [xs_nat k n (by omega)]
  have h : n ^^^ (n >>> k) < 2 ^ 64 := Nat.xor_lt_two_pow (by omega) (by rw [Nat.shiftRight_eq_div_pow]; exact Nat.lt_of_le_of_lt (Nat.div_le_self _ _) (by omega))
  omega
theorem mixI_bd (x : Int) (x0 : 0 ≤ x) (x1 : x ≤ 18446744073709551615) : 0 ≤ mixI x ∧ mixI x ≤ 18446744073709551615 := by
  unfold mixI
  have h := wrap_bd (xs 134217728 (mul1 (xs 1073741824 x)) * 10723151780598845931)
  exact xs_bd 31 _ h.1 h.2
/-- A word's bits from the top down: a shift to the right is undone. -/
theorem xsh_inj (k x y : Nat) (hk : 0 < k) (hx : x < 2 ^ 64) (hy : y < 2 ^ 64) (h : x ^^^ (x >>> k) = y ^^^ (y >>> k)) : x = y := by
  have step : ∀ d i : Nat, 64 ≤ i + d → x.testBit i = y.testBit i := by
    intro d
    induction d with
    | zero =>
      intro i hi
      rw [Nat.testBit_lt_two_pow (Nat.lt_of_lt_of_le hx (Nat.pow_le_pow_right (by decide) (by omega))), Nat.testBit_lt_two_pow (Nat.lt_of_lt_of_le hy (Nat.pow_le_pow_right (by decide) (by omega)))]
    | succ d ih =>
      intro i hi
      have hb := congrArg (fun n : Nat => n.testBit i) h
      simp only [Nat.testBit_xor, Nat.testBit_shiftRight] at hb
      have hu := ih (k + i) (by omega)
      rw [hu] at hb
      revert hb
      cases x.testBit i <;> cases y.testBit i <;> cases y.testBit (k + i) <;> simp
  exact Nat.eq_of_testBit_eq fun i => step 64 i (by omega)
theorem xs_inj (k : Nat) (x y : Int) (hk : 0 < k) (x0 : 0 ≤ x) (x1 : x ≤ 18446744073709551615) (y0 : 0 ≤ y) (y1 : y ≤ 18446744073709551615) (h : xs ((2 ^ k : Nat) : Int) x = xs ((2 ^ k : Nat) : Int) y) : x = y := by
  obtain ⟨n, rfl⟩ : ∃ n : Nat, x = (n : Int) := ⟨x.toNat, by omega⟩
  obtain ⟨m, rfl⟩ : ∃ m : Nat, y = (m : Int) := ⟨y.toNat, by omega⟩
  rw [xs_nat k n (by omega), xs_nat k m (by omega)] at h
  have := xsh_inj k n m hk (by omega) (by omega) (by omega)
  omega
theorem mul_inj (c d x y : Int) (hcd : c * d % 18446744073709551616 = 1) (x0 : 0 ≤ x) (x1 : x ≤ 18446744073709551615) (y0 : 0 ≤ y) (y1 : y ≤ 18446744073709551615) (h : IntKind.u64.wrap (x * c) = IntKind.u64.wrap (y * c)) : x = y := by
  rw [IntKind.wrap_u64, IntKind.wrap_u64] at h
  have key : ∀ z : Int, 0 ≤ z → z ≤ 18446744073709551615 → (z * c % 18446744073709551616) * d % 18446744073709551616 = z := by
    intro z z0 z1
    rw [Int.mul_emod, Int.emod_emod_of_dvd _ (Int.dvd_refl _), ← Int.mul_emod, Int.mul_assoc, Int.mul_emod, hcd, Int.mul_one, Int.emod_emod_of_dvd _ (Int.dvd_refl _)]
    omega
  rw [← key x x0 x1, ← key y y0 y1, h]
theorem mixI_inj (x y : Int) (x0 : 0 ≤ x) (x1 : x ≤ 18446744073709551615) (y0 : 0 ≤ y) (y1 : y ≤ 18446744073709551615) (h : mixI x = mixI y) : x = y := by
  unfold mixI at h
  have bx1 := xs_bd 30 x x0 x1
  have by1 := xs_bd 30 y y0 y1
  have bx2 := wrap_bd (xs 1073741824 x * 13787848793156543929)
  have by2 := wrap_bd (xs 1073741824 y * 13787848793156543929)
  have bx3 := xs_bd 27 _ bx2.1 bx2.2
  have by3 := xs_bd 27 _ by2.1 by2.2
  have bx4 := wrap_bd (xs 134217728 (mul1 (xs 1073741824 x)) * 10723151780598845931)
  have by4 := wrap_bd (xs 134217728 (mul1 (xs 1073741824 y)) * 10723151780598845931)
  have h1 := xs_inj 31 _ _ (by decide) bx4.1 bx4.2 by4.1 by4.2 h
  have h2 := mul_inj 10723151780598845931 3573116690164977347 _ _ (by decide) bx3.1 bx3.2 by3.1 by3.2 h1
  have h3 := xs_inj 27 _ _ (by decide) bx2.1 bx2.2 by2.1 by2.2 h2
  have h4 := mul_inj 13787848793156543929 10871156337175269513 _ _ (by decide) bx1.1 bx1.2 by1.1 by1.2 h3
  exact xs_inj 30 _ _ (by decide) x0 x1 y0 y1 h4
theorem mixI_eq (x y : Int) (x0 : 0 ≤ x) (x1 : x ≤ 18446744073709551615) (y0 : 0 ≤ y) (y1 : y ≤ 18446744073709551615) : (mixI x == mixI y) = (x == y) := by
  by_cases h : x = y
  · subst h; simp
  · have : mixI x ≠ mixI y := fun e => h (mixI_inj x y x0 x1 y0 y1 e)
    rw [beq_eq_false_iff_ne.2 h, beq_eq_false_iff_ne.2 this]
theorem mixI_zero : mixI 0 = 0 := by decide
theorem mixI_one : (mixI 1 == 0) = false := by decide +kernel
/-- Word i of the table of a seed. -/
def tabI (seed : Int) (i : Nat) : Int := mixI (IntKind.u64.wrap (seed + IntKind.u64.wrap (((i + 1 : Nat) : Int) * 11400714819323198485)))
def tab (seed : Int) (n : Nat) : List Int := (List.range n).map (tabI seed)
theorem tab_len (seed : Int) (n : Nat) : (tab seed n).length = n := by simp [tab]
theorem tab_succ (seed : Int) (n : Nat) : tab seed (n + 1) = tab seed n ++ [tabI seed n] := by simp [tab, List.range_succ]
theorem tab_get (seed : Int) (n j : Nat) (h : j < n) : (tab seed n)[j]? = some (tabI seed j) := by simp [tab, h]
theorem tabI_bd (seed : Int) (i : Nat) : 0 ≤ tabI seed i ∧ tabI seed i ≤ 18446744073709551615 :=
  mixI_bd _ (wrap_bd _).1 (wrap_bd _).2
/-- The seed as it is raised round by round. -/
def up (seed : Int) (k : Nat) : Int := IntKind.u64.wrap (seed + (k : Int) * 11400714819323198485)
theorem up_zero (seed : Int) (h0 : 0 ≤ seed) (h1 : seed ≤ 18446744073709551615) : up seed 0 = seed := by
  unfold up; rw [IntKind.wrap_u64]; omega
theorem up_succ (seed : Int) (k : Nat) : IntKind.u64.wrap (up seed k + 11400714819323198485) = up seed (k + 1) := by
  unfold up; rw [IntKind.wrap_u64, IntKind.wrap_u64, IntKind.wrap_u64]; omega
theorem up_tab (seed : Int) (k : Nat) : mixI (up seed (k + 1)) = tabI seed k := by
  unfold tabI up
  congr 1
  rw [IntKind.wrap_u64, IntKind.wrap_u64, IntKind.wrap_u64]; omega
theorem up_bd (seed : Int) (k : Nat) : 0 ≤ up seed k ∧ up seed k ≤ 18446744073709551615 := wrap_bd _
theorem mix_any (x : Int) (w : World) :
    Calls Tryd.prog 60 #[.int .u64 x] w fun e w' => e = .returned (.int .u64 (mixI x)) ∧ w = w' := by
  go_enter Tryd.func60, Tryd.ntmps60
  go_wp2
  go_ret
  exact ⟨rfl, rfl⟩
theorem rmix_any (x : Int) (w : World) :
    Calls Tryd.prog 62 #[.int .u64 x] w fun e w' => e = .returned (.int .u64 (mixI x)) ∧ w = w' := by
  go_enter Tryd.func62, Tryd.ntmps62
  go_wp2
  go_ret
  exact ⟨rfl, rfl⟩
theorem info_u64 : (Tryd.prog.info? 22).map (fun i => (i.zero, i.size, i.bytes)) = some (some (.int .u64 0), 1, 8) := by kernel_rfl
theorem tab_step {seed m : Int} {k : Nat} (h : tabI seed k = m) : tab seed (k + 1) = tab seed k ++ [m] := by subst h; exact tab_succ seed k
theorem tab_at {seed m : Int} {k : Nat} (h : tabI seed k = m) : mixI (IntKind.u64.wrap (seed + IntKind.u64.wrap (((k : Int) + 1) * 11400714819323198485))) = m := by
  subst h; unfold tabI; push_cast; rfl
theorem rmix_at {x m : Int} (w : World) (h : mixI x = m) : Calls Tryd.prog 62 #[.int .u64 x] w fun e w' => e = .returned (.int .u64 m) ∧ w = w' := by
  subst h; exact rmix_any x w
/-- A slice of words of the call's own, which holds L. -/
def Words (B : Nat) (L : List Int) (v : Value) (w : World) : Prop := w.ownsRow B 22 1 v L.length (L.map fun n : Int => Value.int .u64 n)
theorem words_step {B : Nat} {L : List Int} {k : Int} {v : Value} {w : World} (h : w.ownsRow B 22 1 v (L.length + 1) ((L.map fun n : Int => Value.int .u64 n) ++ [.int .u64 k])) : Words B (L ++ [k]) v w := by
  unfold Words
  simpa using h
/-- The table as it fills: k words, the rest is 0. -/
def filled (seed : Int) (k : Nat) : List Value := (tab seed k ++ List.replicate (256 - k) 0).map fun n : Int => Value.int .u64 n
theorem filled_zero (seed : Int) : (madeCells (Value.int .u64 0).cells (256 * 1)).toList = filled seed 0 := by
  rw [show (Value.int .u64 0).cells = #[Value.int .u64 0] from rfl, toList_madeCells_one]
  unfold filled
  rw [show tab seed 0 = [] from rfl, List.nil_append, Nat.sub_zero, List.map_replicate]
theorem filled_at (seed : Int) (k : Nat) (h : k < 256) : (filled seed k)[k]? = some (.int .u64 0) := by
  simp only [filled, List.map_append]
  rw [List.getElem?_append_right (by simp [tab_len]), List.map_replicate, List.length_map, tab_len, Nat.sub_self, List.getElem?_replicate, if_pos (by omega)]
theorem filled_step {seed m : Int} {k : Nat} (h : k < 256) (hm : tabI seed k = m) : (filled seed k).set k (.int .u64 m) = filled seed (k + 1) := by
  have e : 256 - k = (256 - (k + 1)) + 1 := by omega
  subst hm
  simp only [filled, List.map_append]
  rw [List.set_append_right _ _ (by simp [tab_len]), e, List.replicate_succ, tab_succ]
  simp [tab_len]
theorem filled_all (seed : Int) : filled seed 256 = (tab seed 256).map fun n : Int => Value.int .u64 n := by
  unfold filled
  rw [Nat.sub_self, List.replicate_zero, List.append_nil]
theorem up_at {seed m : Int} {k : Nat} (h : tabI seed k = m) : mixI (up seed (k + 1)) = m := by subst h; exact up_tab seed k
theorem mix_at {x m : Int} (w : World) (h : mixI x = m) : Calls Tryd.prog 60 #[.int .u64 x] w fun e w' => e = .returned (.int .u64 m) ∧ w = w' := by
  subst h; exact mix_any x w
set_option maxRecDepth 100000 in
set_option maxHeartbeats 1000000 in
theorem table_any (seed : Int) (w : World) (h0 : 0 ≤ seed) (h1 : seed ≤ 18446744073709551615) :
    Calls Tryd.prog 36 #[.int .u64 seed] w fun e w' => ∃ v, e = .returned v ∧ Words w.heap.size (tab seed 256) v w' ∧ Below w.heap.size w w' := by
  obtain ⟨i0, hi, hz0, hz1, hz2⟩ := info_parts info_u64
  have hb : i0.bytes * 256 ≤ 281474976710656 := by rw [hz2]; decide
  have H0 := Lib.hid (up_zero seed h0 h1)
  clear h0 h1
  go_enter Tryd.func36, Tryd.ntmps36
  go_wp2_with (with_reducible refine wpList_make_full _ rfl _ _ 61 rfl w.heap.size 22 i0 (.int .u64 0) 1 Tryd.underlying61 hi hz0 hz1 .i64 .i64 256 256 256 rfl rfl rfl rfl hb (by decide) (Nat.le_refl _) ?_; intro w1 hown hgrow)
  rw [filled_zero seed] at hown
  have hbel : Below w.heap.size w w1 := (Below.refl _ _).grown hgrow (Nat.le_refl _) (fun _ h => by cases h)
  go_loopw [0, 8] (fun s i wr => ∃ k : Nat, k ≤ 256 ∧ i = .int .i64 (k : Int) ∧ s = .int .u64 (up seed k) ∧ wr.ownsRow w.heap.size 22 1 (.slice (some ⟨w.heap.size, 0, none⟩) 256 256) 256 (filled seed k) ∧ Below w.heap.size w wr)
    (fun _ i _ => 256 - (intOf i).toNat)
  case atStart => exact ⟨0, by omega, rfl, by rw [H0.out], hown, hbel⟩
  case round =>
    clear hown hbel hgrow
    obtain ⟨k, hk, rfl, rfl, hown, hnx⟩ := hrel
    by_cases hlt : k < 256
    · obtain ⟨m, hmm⟩ : ∃ m, tabI seed k = m := ⟨_, rfl⟩
      have hm := fun w => mix_at w (up_at hmm)
      have hstep := up_succ seed k
      have hc : wr.cell? ⟨w.heap.size, k, none⟩ = some (.int .u64 0) := (hown.cellAt k (by omega)).trans (filled_at seed k hlt)
      have hf : wr.frozen? ⟨w.heap.size, k, none⟩ = false := hown.frozenAt k
      have hrel := hown.stored k (.int .u64 m)
      rw [filled_step hlt hmm] at hrel
      have hbel : Below w.heap.size w (wr.setCell ⟨w.heap.size, k, none⟩ (.int .u64 m)) := hnx.setCell (Nat.le_refl _) _
      have H1 := Lib.hid hrel.1
      have H2 := Lib.hid hbel
      obtain ⟨s', HS⟩ : ∃ s', Hid (up seed (k + 1) = s') := ⟨_, rfl⟩
      rw [HS.out] at hm hstep
      clear hrel hbel hmm hown hnx
      go_wp2_with (go_at_call 60; refine (hm _).mono ?_; rintro e w' ⟨rfl, rfl⟩)
      go_roundw
      case rel => exact ⟨k + 1, by omega, by go_num, by rw [HS.out], H1.out, H2.out⟩
      case measure => simp [intOf]; omega
    · obtain rfl : k = 256 := by omega
      rw [filled_all] at hown
      have H2 := Lib.hid hown
      have H3 := Lib.hid hnx
      clear hown hnx
      go_wp2
      go_ret
      refine ⟨_, rfl, ?_, H3.out⟩
      unfold Words
      rw [tab_len]
      exact H2.out
set_option maxRecDepth 100000 in
set_option maxHeartbeats 1000000 in
theorem rtable_any (seed : Int) (w : World) (h0 : 0 ≤ seed) (h1 : seed ≤ 18446744073709551615) :
    Calls Tryd.prog 41 #[.int .u64 seed] w fun e w' => ∃ v, e = .returned v ∧ Words w.heap.size (tab seed 256) v w' ∧ Below w.heap.size w w' := by
  obtain ⟨i0, hi, hz0, hz1, hz2⟩ := info_parts info_u64
  go_enter Tryd.func41, Tryd.ntmps41
  go_wp2
  go_loopw [3, 4] (fun v i wr => ∃ k : Nat, k ≤ 256 ∧ i = .int .u64 ((k : Int) + 1) ∧ Words w.heap.size (tab seed k) v wr ∧ Below w.heap.size w wr)
    (fun _ i _ => 257 - (intOf i).toNat)
  case atStart => exact ⟨0, by omega, rfl, World.ownsRow_nil _ _ _ _, Below.refl _ _⟩
  case round =>
    obtain ⟨k, hk, rfl, hown, hnx⟩ := hrel
    have hsz := hnx.size
    have hl := tab_len seed k
    by_cases hlt : k < 256
    · obtain ⟨m, hmm⟩ : ∃ m, tabI seed k = m := ⟨_, rfl⟩
      have hs := tab_step hmm
      have hm := fun w => rmix_at w (tab_at hmm)
      clear hmm
      have H1 := Lib.hid hs
      have H2 := Lib.hid hl
      clear hs hl h0 h1
      go_wp2_with (first
        | (go_at_call 62; refine (hm _).mono ?_; rintro e w' ⟨rfl, rfl⟩)
        | (at_builtin; refine wpList_append_own _ rfl _ _ 61 rfl w.heap.size 22 i0 (.int .u64 0) 1 8 Tryd.underlying61 hi hz0 hz1 hz2 rfl (by decide) _ _ _ rfl (World.ownsRow.alloc hown _) ⟨wr.heap.size, 0, none⟩ 1 1 [.int .u64 m] rfl rfl ?c1 ?c2 ?c3 ?c4 ?c5 ?_))
      case c1 =>
        intro j u hj
        match j, hj with
        | 0, hj => simp at hj; subst hj; simp [Addr.add]
      case c2 => intro u hu; simp at hu; subst hu; rfl
      case c3 => have := H2.out; unfold maxLen; omega
      case c4 => have := H2.out; omega
      case c5 => simp; omega
      · intro v' w1 hown' hgrow _
        have hstep := words_step hown'
        have hbel : Below w.heap.size w w1 := (hnx.alloc hsz _).grown hgrow (by simp; omega) (fun g hg' => (hown.lt g hg').1)
        have H5 := Lib.hid hstep
        have H6 := Lib.hid hbel
        clear hstep hbel hown' hgrow hown hnx hm
        go_wp2
        go_roundw
        case rel => exact ⟨k + 1, by omega, by go_num, by rw [H1.out]; exact H5.out, H6.out⟩
        case measure => simp [intOf]; omega
    · obtain rfl : k = 256 := by omega
      have H2 := Lib.hid hown
      have H3 := Lib.hid hnx
      clear hown hnx hl
      go_wp2
      go_ret
      exact ⟨_, rfl, H2.out, H3.out⟩
def rot5 (h : Int) : Int := bits .or .u64 (IntKind.u64.wrap (h * 32)) (h / 576460752303423488)
def hstep (h c : Int) : Int := IntKind.u64.wrap (bits .xor .u64 (rot5 h) c * 1099511628211)
def hup (L : List Int) (s : ByteArray) : Nat → Int
  | 0 => L.getD (s.size % 256) 0
  | k + 1 => hstep (hup L s k) (L.getD (((s.data[k]?.getD 0).toNat + k) % 256) 0)
def hashI (L : List Int) (s : ByteArray) : Int := mixI (hup L s s.size)
theorem hup_succ (L : List Int) (s : ByteArray) (k : Nat) (h : k < s.size) : hup L s (k + 1) = hstep (hup L s k) (L.getD ((s[k].toNat + k) % 256) 0) := by
  have e : s.data[k]?.getD 0 = s[k] := by
    have hd : k < s.data.size := h
    rw [Array.getElem?_eq_getElem hd]; rfl
  show hstep (hup L s k) _ = _
  rw [e]
theorem u8_sum (c : UInt8) (k : Nat) : IntKind.u8.wrap ((c.toNat : Int) + IntKind.u8.wrap (k : Int)) = (((c.toNat + k) % 256 : Nat) : Int) := by
  rw [IntKind.wrap_u8', IntKind.wrap_u8']; omega
theorem rot_any (h : Int) (w : World) :
    Calls Tryd.prog 59 #[.int .u64 h, .int .i64 5] w fun e w' => e = .returned (.int .u64 (rot5 h)) ∧ w = w' := by
  have h5 : bits .and .u64 5 63 = 5 := by decide
  go_enter Tryd.func59, Tryd.ntmps59
  go_wp2
  go_ret
  exact ⟨rfl, rfl⟩
set_option maxRecDepth 100000 in
set_option maxHeartbeats 1000000 in
theorem hash_any (L : List Int) (s : ByteArray) (b off cap : Nat) (w : World) (hs : s.size ≤ 140737488355328) (hcell : ∀ j, j < 256 → w.cell? ⟨b, off + j, none⟩ = some (.int .u64 (L.getD j 0))) :
    Calls Tryd.prog 35 #[.slice (some ⟨b, off, none⟩) 256 cap, .string s] w fun e w' => e = .returned (.tuple #[.int .u64 (hashI L s), .int .i64 0]) ∧ w = w' := by
  have h0 := hcell (s.size % 256) (by omega)
  go_enter Tryd.func35, Tryd.ntmps35
  go_wp2
  go_loop [6, 20] (fun h i => ∃ k : Nat, k ≤ s.size ∧ i = .int .i64 (k : Int) ∧ h = .int .u64 (hup L s k)) (fun _ i => s.size - (intOf i).toNat)
  case atStart => exact ⟨0, by omega, rfl, rfl⟩
  case round =>
    clear h0
    obtain ⟨k, hk, rfl, rfl⟩ := hrel
    by_cases hlt : k < s.size
    · have hc := hcell ((s[k].toNat + k) % 256) (by omega)
      have HS := Lib.hid (hup_succ L s k hlt)
      clear hcell
      generalize L.getD ((s[k].toNat + k) % 256) 0 = t at *
      generalize hup L s k = h at *
      go_wp2_with (go_at_call 59; refine (rot_any _ _).mono ?_; rintro e w' ⟨rfl, rfl⟩)
      go_round
      case rel => exact ⟨k + 1, by omega, by go_num, by rw [HS.out]; rfl⟩
      case measure => simp [intOf]; omega
    · obtain rfl : k = s.size := by omega
      clear hcell
      go_wp2_with (go_at_call 60; refine (mix_any _ _).mono ?_; rintro e w' ⟨rfl, rfl⟩)
      go_ret2
      exact ⟨rfl, rfl⟩
set_option maxRecDepth 100000 in
set_option maxHeartbeats 1000000 in
theorem rhash_any (L : List Int) (s : ByteArray) (b off cap : Nat) (w : World) (hs : s.size ≤ 140737488355328) (hcell : ∀ j, j < 256 → w.cell? ⟨b, off + j, none⟩ = some (.int .u64 (L.getD j 0))) :
    Calls Tryd.prog 40 #[.slice (some ⟨b, off, none⟩) 256 cap, .string s] w fun e w' => e = .returned (.tuple #[.int .u64 (hashI L s), .int .i64 0]) ∧ w = w' := by
  have h0 := hcell (s.size % 256) (by omega)
  go_enter Tryd.func40, Tryd.ntmps40
  go_wp2
  go_loop [6, 7] (fun h i => ∃ k : Nat, k ≤ s.size ∧ i = .int .i64 (k : Int) ∧ h = .int .u64 (hup L s k)) (fun _ i => s.size - (intOf i).toNat)
  case atStart => exact ⟨0, by omega, rfl, rfl⟩
  case round =>
    clear h0
    obtain ⟨k, hk, rfl, rfl⟩ := hrel
    by_cases hlt : k < s.size
    · have hc := hcell ((s[k].toNat + k) % 256) (by omega)
      have h8 : s[k].toNat < 256 := UInt8.toNat_lt _
      have HS := Lib.hid (hup_succ L s k hlt)
      clear hcell
      generalize L.getD ((s[k].toNat + k) % 256) 0 = t at *
      generalize hup L s k = h at *
      go_wp2
      go_round
      case rel => exact ⟨k + 1, by omega, by go_num, by rw [HS.out]; rfl⟩
      case measure => simp [intOf]; omega
    · obtain rfl : k = s.size := by omega
      clear hcell
      go_wp2_with (go_at_call 62; refine (rmix_any _ _).mono ?_; rintro e w' ⟨rfl, rfl⟩)
      go_ret2
      exact ⟨rfl, rfl⟩
/-- A table of another size. -/
theorem hash_off (A : Option Addr) (n cap : Nat) (s : ByteArray) (w : World) (hn : n ≠ 256) (hm : n ≤ maxLen) :
    Calls Tryd.prog 35 #[.slice A n cap, .string s] w fun e w' => e = .returned (.tuple #[.int .u64 0, .int .i64 18]) ∧ w = w' := by
  unfold maxLen at hm
  go_enter Tryd.func35, Tryd.ntmps35
  go_wp2
  go_ret2
  exact ⟨rfl, rfl⟩
theorem rhash_off (A : Option Addr) (n cap : Nat) (s : ByteArray) (w : World) (hn : n ≠ 256) (hm : n ≤ maxLen) :
    Calls Tryd.prog 40 #[.slice A n cap, .string s] w fun e w' => e = .returned (.tuple #[.int .u64 0, .int .i64 18]) ∧ w = w' := by
  unfold maxLen at hm
  go_enter Tryd.func40, Tryd.ntmps40
  go_wp2
  go_ret2
  exact ⟨rfl, rfl⟩
end Go.Proofs.YtgnopnifdiipkaaDoor
