/- RowQ, BQr, BAt, BCo, BSo, FqCom: in one text. -/
import Derived.Test.YtjibbnknliamkaaGreatDoorPg14
import Derived.Test.YtjibbnknliamkaaGreatDoorPg13
import Derived.Test.YtjibbnknliamkaaGreatDoorPg27
import Derived.Test.YtjibbnknliamkaaGreatDoorPg31
import Derived.Test.YtjibbnknliamkaaGreatDoorPg00
import Derived.Test.YtjibbnknliamkaaGreatDoorPg01
import Derived.Test.YtjibbnknliamkaaGreatDoorPg07
import Derived.Test.YtjibbnknliamkaaGreatDoorPg03
import Derived.Test.YtjibbnknliamkaaGreatDoorPg08
import Derived.Test.YtjibbnknliamkaaGreatDoorPg30
import Derived.Test.YtjibbnknliamkaaGreatDoorPg24
import Derived.BigRegion
import Derived.Deep.RegionHeld3
namespace Go.Proofs.YtjibbnknliamkaaGreatDoor
open Go Go.RowKit
set_option linter.unusedVariables false
set_option linter.unusedSimpArgs false
section
variable {ops : Array Oper} {rest : List Oper} {o : Oper} {a : Act} {w : World} {Q : Exit → Act → World → Prop}
theorem infQr : (Tryz.prog.info? 23).map (·.size) = some 5 := by kernel_rfl
theorem ldQr {p : Operand} (hgd : o.guard = none) (ho : o.op = .load 23 p) {g off : Nat} (hp : a.eval p = .pointer (some ⟨g, off, none⟩)) {A B : Array Value} (h : RowAt g A w) (hs : B.size = 5) (hB : A.extract off (off + B.size) = B)
    (hK : wpList Tryz.prog ops Q rest (a.put o.dst (.agg B)) w) : wpList Tryz.prog ops Q (o :: rest) a w := wp_part hgd ho hp h Tryz.underlying23 rfl (infQr.trans (by rw [hs])) hB hK
theorem infAn : (Tryz.prog.info? 51).map (·.size) = some 6 := by kernel_rfl
def zcAn : Array Value := #[.int .i64 0, .int .i64 0, .string ByteArray.empty, .slice none 0 0, .slice none 0 0, .bool false]
theorem ldAn {p : Operand} (hgd : o.guard = none) (ho : o.op = .load 51 p) {g off : Nat} (hp : a.eval p = .pointer (some ⟨g, off, none⟩)) {A B : Array Value} (h : RowAt g A w) (hs : B.size = 6) (hB : A.extract off (off + B.size) = B)
    (hK : wpList Tryz.prog ops Q rest (a.put o.dst (.agg B)) w) : wpList Tryz.prog ops Q (o :: rest) a w := wp_part hgd ho hp h Tryz.underlying51 rfl (infAn.trans (by rw [hs])) hB hK
theorem stAn {p y : Operand} (hgd : o.guard = none) (ho : o.op = .store 51 p y) {g : Nat} (hp : a.eval p = .pointer (some ⟨g, 0, none⟩)) {A B : Array Value} (h : RowAt g A w) (hy : a.eval y = .agg B) (hs : B.size = 6) (hn : A.size = 6) (h1 : B.toList.all (·.oneCell') = true)
    (hK : ∀ w', RowAt g B w' → Oth g w w' → wpList Tryz.prog ops Q rest (a.put o.dst undef) w') : wpList Tryz.prog ops Q (o :: rest) a w := wp_whole hgd ho hp h hy (infAn.trans (by rw [hs])) (all_one h1) (hs.trans hn.symm) hK
theorem stci {p y : Operand} (hgd : o.guard = none) (ho : o.op = .store 3 p y) {g off : Nat} (hp : a.eval p = .pointer (some ⟨g, off, none⟩)) {A : Array Value} (h : RowAt g A w) {n : Int} (hy : a.eval y = .int .i64 n) (hn : off < A.size) {A' : Array Value} (hA : A.setIfInBounds off (.int .i64 n) = A')
    (hK : ∀ w', RowAt g A' w' → Oth g w w' → wpList Tryz.prog ops Q rest (a.put o.dst undef) w') : wpList Tryz.prog ops Q (o :: rest) a w := wp_put1 hgd ho hp h hy (by kernel_rfl) rfl rfl hn hA hK
theorem stcb {p y : Operand} (hgd : o.guard = none) (ho : o.op = .store 4 p y) {g off : Nat} (hp : a.eval p = .pointer (some ⟨g, off, none⟩)) {A : Array Value} (h : RowAt g A w) {n : Bool} (hy : a.eval y = .bool n) (hn : off < A.size) {A' : Array Value} (hA : A.setIfInBounds off (.bool n) = A')
    (hK : ∀ w', RowAt g A' w' → Oth g w w' → wpList Tryz.prog ops Q rest (a.put o.dst undef) w') : wpList Tryz.prog ops Q (o :: rest) a w := wp_put1 hgd ho hp h hy (by kernel_rfl) rfl rfl hn hA hK
end
end Go.Proofs.YtjibbnknliamkaaGreatDoor
namespace Go.Proofs.YtjibbnknliamkaaGreatDoor
open Go.RowKit
set_option linter.unusedVariables false
set_option linter.unusedSimpArgs false
theorem maskq1 (n : Int) : bits .and .i64 n 1 = n % 2 := i64_mask 1 (by decide) n
theorem maskq2 (n : Int) : bits .and .i64 n 3 = n % 4 := i64_mask 2 (by decide) n
theorem maskq3 (n : Int) : bits .and .i64 n 7 = n % 8 := i64_mask 3 (by decide) n
theorem maskq4 (n : Int) : bits .and .i64 n 15 = n % 16 := i64_mask 4 (by decide) n
theorem key_len (n : Int) : (keyS n).size ≤ maxLen := by have := keyS_bd n; unfold maxLen; omega
theorem key_isB (n : Int) : keyB (byt (keyS n)) = true := by
  have := keyS_bd n
  unfold keyB
  rw [byt_len]
  simp
  omega
end Go.Proofs.YtjibbnknliamkaaGreatDoor
namespace Go.Proofs.YtjibbnknliamkaaGreatDoor
open Go.RowKit
set_option linter.unusedVariables false
set_option linter.unusedSimpArgs false
/-- The number at place i of a list that goes round. -/
def atN (L : List Int) (i : Nat) : Int := if L.length = 0 then (i : Int) % 65536 else L.getD (i % L.length) 0 % 65536 + ((i / L.length : Nat) : Int)
theorem atN_bd (L : List Int) {i : Nat} (hi : i ≤ 1000) : 0 ≤ atN L i ∧ atN L i ≤ 66536 := by
  unfold atN
  split
  · omega
  · have h0 : (0 : Int) ≤ ((i / L.length : Nat) : Int) := Int.natCast_nonneg _
    have h1 : ((i / L.length : Nat) : Int) ≤ 1000 := Int.ofNat_le.2 (Nat.le_trans (Nat.div_le_self _ _) hi)
    generalize ((i / L.length : Nat) : Int) = q at *
    omega
set_option maxRecDepth 100000 in
set_option maxHeartbeats 1000000 in
theorem bat_any (L : List Int) (v : Value) (i : Nat) (w : World) (h : RdI L v w) (hi : i ≤ 1000) :
    Calls Tryz.prog 31 #[v, .int .i64 i] w fun e w' => e = .returned (.int .i64 (atN L i)) ∧ Below w.heap.size w w' := by
  obtain ⟨hy, a, cap, rfl, h1, h2, h3⟩ := h
  unfold maxLen at h2
  have hb := atN_bd L hi
  by_cases hn : L.length = 0
  · have hA : atN L i = (i : Int) % 65536 := by unfold atN; rw [if_pos hn]
    rw [hA]
    have hm := mask16 (i : Int)
    obtain rfl : L = [] := List.eq_nil_of_length_eq_zero hn
    clear hb hA hn h3 h1 hy
    simp only [List.length_nil]
    go_enter Tryz.func31, Tryz.ntmps31
    go_wp2
    all_goals
      go_ret
      refine ⟨ret_int (by first | rfl | (simp [*]; done) | (simp [*] <;> omega)), ?_⟩
      repeat (first | exact Below.refl _ _ | refine bset ?_ _ _ _ (by simp <;> omega) | refine bal ?_ _ | refine below_drew ?_)
  · have hA : atN L i = L.getD (i % L.length) 0 % 65536 + ((i / L.length : Nat) : Int) := by unfold atN; rw [if_neg hn]
    obtain ⟨b, off, rfl, hlt, hc⟩ := h3 (by omega)
    have hj : i % L.length < L.length := Nat.mod_lt _ (by omega)
    have hcell := hc _ hj
    have hm := mask16 (L.getD (i % L.length) 0)
    have hq : ((i : Int)).tdiv (L.length : Int) = ((i / L.length : Nat) : Int) := by
      rw [Int.tdiv_eq_ediv_of_nonneg (by omega)]
      norm_cast
    have hr : ((i : Int)).tmod (L.length : Int) = ((i % L.length : Nat) : Int) := by
      rw [Int.tmod_eq_emod_of_nonneg (by omega)]
      norm_cast
    have hq2 : ((i / L.length : Nat) : Int) ≤ 1000 := Int.ofNat_le.2 (Nat.le_trans (Nat.div_le_self _ _) hi)
    have hq1 : (0 : Int) ≤ ((i / L.length : Nat) : Int) := Int.natCast_nonneg _
    have hn3 : ¬ (L.length : Int) = 0 := by omega
    have hl3 : ((i % L.length : Nat) : Int) < (L.length : Int) := by omega
    rw [hA]
    generalize L.getD (i % L.length) 0 = y at *
    generalize hqq : ((i / L.length : Nat) : Int) = q at *
    generalize hj2 : i % L.length = j at *
    generalize hll : L.length = n at *
    have hnw : IntKind.i64.wrap (n : Int) = n := by
      have : (n : Int) ≤ 9223372036854775807 := by omega
      have : 0 ≤ (n : Int) := by omega
      unfold IntKind.wrap
      simp [IntKind.signed, IntKind.bits]
      omega
    clear hb hA hqq hj2 hll hc hi h3 h1 hy hn
    go_enter Tryz.func31, Tryz.ntmps31
    go_wp2
    go_region
    all_goals
      go_wp2
      go_ret
      refine ⟨ret_int (by first | rfl | (simp [*]; done) | (simp [*] <;> omega)), ?_⟩
      repeat (first | exact Below.refl _ _ | refine bset ?_ _ _ _ (by simp <;> omega) | refine bal ?_ _ | refine below_drew ?_)
end Go.Proofs.YtjibbnknliamkaaGreatDoor
namespace Go.Proofs.YtjibbnknliamkaaGreatDoor
open Go.RowKit
set_option linter.unusedVariables false
set_option linter.unusedSimpArgs false
theorem own_four {c d e f : Int} (hc : 0 ≤ c ∧ c ≤ 255) (hd : 0 ≤ d ∧ d ≤ 255) (he : 0 ≤ e ∧ e ≤ 255) (hf : 0 ≤ f ∧ f ≤ 255) (w : World) : Own w.heap.size [c, d, e, f] (.slice (some ⟨w.heap.size, 0, none⟩) 4 4) (w.alloc (.cells #[.int .u8 c, .int .u8 d, .int .u8 e, .int .u8 f] 5)) :=
  ⟨Byt.cons hc (Byt.cons hd (Byt.cons he (Byt.cons hf Byt.nil))), rfl, .inr ⟨w.heap.size, 4, #[.int .u8 c, .int .u8 d, .int .u8 e, .int .u8 f], rfl, Nat.le_refl _, Go.heap_alloc_new w _, Nat.le_refl _, by decide, rfl, rfl⟩⟩
theorem cut_four {c d e f : Int} (hc : 0 ≤ c ∧ c ≤ 255) (hd : 0 ≤ d ∧ d ≤ 255) (he : 0 ≤ e ∧ e ≤ 255) (hf : 0 ≤ f ∧ f ≤ 255) (w : World) (k : Nat) (hk : k ≤ 4) : Rd ([c, d, e, f].take k) (.slice (some ⟨w.heap.size, 0, none⟩) k 4) (w.alloc (.cells #[.int .u8 c, .int .u8 d, .int .u8 e, .int .u8 f] 5)) := by
  have := (own_four hc hd he hf w).rd.cut 0 k (Nat.zero_le _) (by simpa using hk) (some ⟨w.heap.size, 0, none⟩) (fun _ => rfl) (m := k) (c := 4) (by omega) (by omega)
  simpa using this
set_option maxRecDepth 100000 in
set_option maxHeartbeats 1000000 in
theorem bcoins_k (n : Int) (k : Nat) (w : World) (n0 : 0 ≤ n) (n1 : n ≤ 70000) (hk : n % 4 = k) (hk4 : k ≤ 3) :
    Calls Tryz.prog 33 #[.int .i64 n] w fun e w' => ∃ Z v, e = .returned v ∧ Rd Z v w' ∧ Below w.heap.size w w' := by
  have hm := maskq2 n
  rw [hk] at hm
  have hR := Lib.hid (cut_four (c := n % 256) (d := n / 8 % 256) (e := n / 32 % 256) (f := n / 128 % 256) (by omega) (by omega) (by omega) (by omega) w (k + 1) (by omega))
  clear hk
  have h4 : k = 0 ∨ k = 1 ∨ k = 2 ∨ k = 3 := by omega
  rcases h4 with rfl | rfl | rfl | rfl
  all_goals
    go_enter Tryz.func33, Tryz.ntmps33
    go_wp2
    go_ret
    exact ⟨_, _, rfl, hR.out, b1 _⟩
theorem bcoins_any (n : Int) (w : World) (n0 : 0 ≤ n) (n1 : n ≤ 70000) :
    Calls Tryz.prog 33 #[.int .i64 n] w fun e w' => ∃ Z v, e = .returned v ∧ Rd Z v w' ∧ Below w.heap.size w w' := by
  obtain ⟨k, hk⟩ : ∃ k : Nat, n % 4 = (k : Int) := ⟨(n % 4).toNat, by omega⟩
  exact bcoins_k n k w n0 n1 hk (by omega)
/-- The items that a list gives. -/
def itsN (L : List Int) : Nat → List It2
  | 0 => []
  | k + 1 => itsN L k ++ [⟨keyS (atN L k), wtS (atN L k)⟩]
theorem itsN_len (L : List Int) : ∀ k, (itsN L k).length = k
  | 0 => rfl
  | k + 1 => by simp [itsN, itsN_len L k]
def BIt (L : List Int) (k : Nat) (w w' : World) (v : Value) : Prop := OwnIt w.heap.size (itsN L k) v w' ∧ Below w.heap.size w w'
set_option maxRecDepth 100000 in
set_option maxHeartbeats 2000000 in
theorem bitems_any (L : List Int) (v : Value) (n : Nat) (w : World) (h : RdI L v w) (hn : n ≤ 7) :
    Calls Tryz.prog 32 #[v, .int .i64 n] w fun e w' => ∃ u, e = .returned u ∧ OwnIt w.heap.size (itsN L n) u w' ∧ Below w.heap.size w w' := by
  obtain ⟨al, cl, rfl⟩ := h.shape
  have HR := Lib.hid h
  have HI : Hid (BIt L 0 w w (.slice none 0 0)) := Lib.hid ⟨OwnIt.empty _ _, Below.refl _ _⟩
  clear h
  go_enter Tryz.func32, Tryz.ntmps32
  go_wp2
  go_loopw [5, 6] (fun s i wr => ∃ k : Nat, k ≤ n ∧ i = .int .i64 (k : Int) ∧ Hid (BIt L k w wr s)) (fun _ i _ => n - (intOf i).toNat)
  case atStart => exact ⟨0, by omega, rfl, HI⟩
  case round =>
    clear HI
    obtain ⟨k, hk, rfl, HI⟩ := hrel
    obtain ⟨ho, hb⟩ := HI.out
    obtain ⟨a5, c5, rfl⟩ := ho.rd.shape
    have hl5 := itsN_len L k
    have HO := Lib.hid ho
    have HB := Lib.hid hb
    by_cases hlt : k < n
    · have HA := Lib.hid (fun (w' : World) (hb' : Below w.heap.size w w') => bat_any L (.slice al L.length cl) k w' (HR.out.below hb') (by omega))
      have hbd := atN_bd L (i := k) (by omega)
      have HT := Lib.hid (fun w' => bitem_any (atN L k) w' (by omega) (by omega))
      have hwt := wtS_bd (atN L k)
      have hok : Hid (It2.ok ⟨keyS (atN L k), wtS (atN L k)⟩) := Lib.hid ⟨key_len _, by show -9223372036854775808 ≤ wtS (atN L k) ∧ wtS (atN L k) ≤ 9223372036854775807; omega⟩
      have HS : Hid (itsN L (k + 1) = itsN L k ++ [⟨keyS (atN L k), wtS (atN L k)⟩]) := Lib.hid rfl
      have HL5 := Lib.hid hl5
      clear hl5 hbd hwt ho hb HI
      generalize keyS (atN L k) = K at *
      generalize wtS (atN L k) = x at *
      generalize atN L k = z at *
      generalize itsN L k = M at *
      go_wp2_with (first
        | (go_at_call 31; (with_reducible refine (HA.out _ HB.out).mono ?_); rintro e w1 ⟨rfl, hb1⟩; have B1 := Lib.hid (bgo HB.out hb1); have O1 := Lib.hid (HO.out.below hb1); clear hb1)
        | (go_at_call 62; (with_reducible refine (HT.out _).mono ?_); rintro e w2 ⟨rfl, hb2⟩; have B2 := Lib.hid (bgo B1.out hb2); have O2 := Lib.hid (O1.out.below hb2); clear hb2)
        | (refine wp_appIt rfl _ _ 78 rfl w.heap.size M [⟨K, x⟩] _ _ rfl rfl (O2.out.alloc _) (OwnIt.one hok.out w2).rd.src ?_ ?_ ?_; (have := B2.out.size; simp; omega); (have := HL5.out; simp; omega); intro v3 w3 ho3 hb3; have O3 := Lib.hid ho3; have B3 := Lib.hid ((bal B2.out _).trans hb3); clear ho3 hb3))
      go_roundw
      case rel => exact ⟨k + 1, by omega, by go_num, Lib.hid ⟨by rw [HS.out]; exact O3.out, B3.out⟩⟩
      case measure => simp [intOf]; omega
    · obtain rfl : k = n := by omega
      go_wp2
      go_ret
      exact ⟨_, rfl, HO.out, HB.out⟩
end Go.Proofs.YtjibbnknliamkaaGreatDoor
namespace Go.Proofs.YtjibbnknliamkaaGreatDoor
open Go Go.RowKit
set_option linter.unusedVariables false
set_option linter.unusedSimpArgs false
/-- What l[k:] is. -/
def tlI : Value → Nat → Value
  | .slice a n c, k => .slice (if c = k then a else a.map (·.add k)) (n - k) (c - k)
  | v, _ => v
theorem tlI_run {L : List Int} {v : Value} {w : World} (h : RdI L v w) (k : Nat) (hk : k ≤ L.length) (w' : World) : (Instr.slice 29 v (some (.int .i64 (k : Int))) none none).run Tryz.prog w' = .ok (tlI v k) w' := by
  obtain ⟨hy, a, cap, rfl, h1, h2, h3⟩ := h
  have ht : Tryz.prog.underlying 29 = some (.slice (Tryz.prog.elem 29)) := by simp [Program.elem, Tryz.underlying29]
  have he : Tryz.prog.elem 29 = 3 := by simp [Program.elem, Tryz.underlying29]
  rw [run_slice_l w' 29 _ _ _ ht .i64 _ (by omega) (by omega), he, Tryz.sizeOf3]
  simp [Result.andThen, sliced, tlI]
theorem RdI.tl {L : List Int} {v : Value} {w : World} (h : RdI L v w) (k : Nat) (hk : k ≤ L.length) : RdI (L.drop k) (tlI v k) w := by
  obtain ⟨hy, a, cap, rfl, h1, h2, h3⟩ := h
  refine ⟨fun n hn => hy n (List.mem_of_mem_drop hn), if cap = k then a else a.map (·.add k), cap - k, by simp [tlI], by simp; omega, by omega, fun hp => ?_⟩
  have hp' : k < L.length := by simp at hp; omega
  obtain ⟨b, off, rfl, hb, hc⟩ := h3 (by omega)
  refine ⟨b, off + k, by rw [if_neg (by omega)]; simp [Addr.add], hb, fun j hj => ?_⟩
  have hj' : k + j < L.length := by simp at hj; omega
  have := hc (k + j) hj'
  rw [← Nat.add_assoc] at this
  rw [this]
  simp [List.getD]
/-- How many items, which ones. -/
def soN (L : List Int) : Nat := (atN L 1 % 8).toNat
def soL (L : List Int) : List It2 := itsN (L.drop (min L.length 2)) (soN L)
theorem soN_le (L : List Int) : soN L ≤ 7 := by unfold soN; omega
theorem soL_len (L : List Int) : (soL L).length = soN L := itsN_len _ _
theorem itsN_at (L : List Int) : ∀ {n j : Nat}, j < n → (itsN L n).getD j It2.z = ⟨keyS (atN L j), wtS (atN L j)⟩
  | n + 1, j, h => by
    by_cases hj : j = n
    · subst hj
      simp [itsN, List.getD, itsN_len]
    · have := itsN_at L (n := n) (j := j) (by omega)
      rw [← this]
      simp only [itsN, List.getD]
      rw [List.getElem?_append_left (by rw [itsN_len]; omega)]
theorem soL_at (L : List Int) {j : Nat} (h : j < (soL L).length) : ∃ z : Int, (soL L).getD j It2.z = ⟨keyS z, wtS z⟩ := by
  rw [soL_len] at h
  exact ⟨_, itsN_at _ h⟩
set_option maxRecDepth 100000 in
set_option maxHeartbeats 4000000 in
theorem skof_any (k S D x : Int) (L : List Int) (v : Value) (w : World) (hv : RdI L v w) (Post : SK → Prop)
    (HF : ∀ (vi vc : Value) (Z : List Int) (w' : World), RdIt (soL L) vi w' → Rd Z vc w' → Calls Tryz.prog 29 #[.agg #[.int .i64 k, .int .i64 S, .int .i64 D, .int .u64 x], vi, vc] w' fun e w2 => ∃ u s, e = .returned u ∧ (∀ w3, Abv (w'.heap.size + 2) w2 w3 → RdK s u w3) ∧ Post s ∧ Below w'.heap.size w' w2) :
    Calls Tryz.prog 21 #[.agg #[.int .i64 k, .int .i64 S, .int .i64 D, .int .u64 x], v] w fun e w' => ∃ u s, e = .returned u ∧ (∀ w3, Abv (w.heap.size + 2) w' w3 → RdK s u w3) ∧ Post s ∧ Below w.heap.size w w' := by
  obtain ⟨a, c, rfl⟩ := hv.shape
  have HR := Lib.hid hv
  have HF' := Lib.hid HF
  have hk2 : min L.length 2 ≤ L.length := Nat.min_le_left _ _
  have hT := tlI_run hv (min L.length 2) hk2
  have hsl : soL L = itsN (L.drop (min L.length 2)) (soN L) := rfl
  have hTd := Lib.hid (hv.tl (min L.length 2) hk2)
  have hmin : (((min L.length 2 : Nat)) : Int) = min (L.length : Int) 2 := by omega
  have hb1 := atN_bd L (i := 1) (by omega)
  have hb9 := atN_bd L (i := 9) (by omega)
  have hm := maskq3 (atN L 1)
  have hso : ((soN L : Nat) : Int) = atN L 1 % 8 := by unfold soN; omega
  rw [← hso] at hm
  have HA1 : Hid (∀ w' : World, Below w.heap.size w w' → Calls Tryz.prog 31 #[.slice a L.length c, .int .i64 1] w' fun e w2 => e = .returned (.int .i64 (atN L 1)) ∧ Below w'.heap.size w' w2) := Lib.hid (fun (w' : World) (hb : Below w.heap.size w w') => bat_any L (.slice a L.length c) 1 w' (HR.out.below hb) (by omega))
  have HA9 : Hid (∀ w' : World, Below w.heap.size w w' → Calls Tryz.prog 31 #[.slice a L.length c, .int .i64 9] w' fun e w2 => e = .returned (.int .i64 (atN L 9)) ∧ Below w'.heap.size w' w2) := Lib.hid (fun (w' : World) (hb : Below w.heap.size w w') => bat_any L (.slice a L.length c) 9 w' (HR.out.below hb) (by omega))
  have HIt := Lib.hid (fun (w' : World) (hb : Below w.heap.size w w') => bitems_any (L.drop (min L.length 2)) (tlI (.slice a L.length c) (min L.length 2)) (soN L) w' (hTd.out.below hb) (soN_le L))
  have HCo := Lib.hid (fun (w' : World) => bcoins_any (atN L 9) w' (by omega) (by omega))
  have hN7 := Lib.hid (soN_le L)
  rw [← hsl] at HIt
  generalize hq : min L.length 2 = q at *
  clear hsl hq hk2
  generalize tlI (.slice a L.length c) q = vt at *
  generalize atN L 1 = z1 at *
  generalize atN L 9 = z9 at *
  clear hv HF hb1 hb9 hso hTd
  go_enter Tryz.func21, Tryz.ntmps21
  go_upto_region 1 with (fail)
  refine wp_genW (fun w1 => RowAt w.heap.size #[.int .i64 k, .int .i64 S, .int .i64 D, .int .u64 x] w1 ∧ RowAt (w.heap.size + 1) zcSk w1 ∧ Below w.heap.size w w1) ⟨(RowAt.new _ _ _).al _, RowAt.new1 _ _ _ _, b2 _ _⟩ ?_
  rintro w1 ⟨r1, r2, hb⟩
  have R1 := Lib.hid r1
  have Q1 := Lib.hid r2
  have B1 := Lib.hid hb
  clear r1 r2 hb
  rename_i KK hKK
  refine wp_region_held_drew (S := RowAt w.heap.size #[.int .i64 k, .int .i64 S, .int .i64 D, .int .u64 x]) (by kernel_rfl) R1.out.drew (fun hH0 => ?_)
  refine wpAnyH_take (i := 0) (v := .agg #[.int .i64 k, .int .i64 S, .int .i64 D, .int .u64 x]) rfl (by kernel_rfl) (by kernel_rfl) (by kernel_rfl) (fun _ _ _ h => h) (Or.inl ⟨by rfl, fun _ hs => run_part rfl rfl hs Tryz.underlying32 rfl infPm rfl⟩) hH0 ?_
  try simp only [Act.put, List.getElem_toArray, List.getElem_cons_zero, List.getElem_cons_succ, List.setIfInBounds_toArray, List.set_cons_zero, List.set_cons_succ]
  refine wpAnyH_take (i := 1) (v := .slice a L.length c) rfl (by kernel_rfl) (by kernel_rfl) (by kernel_rfl) (fun _ _ _ h => h) (Or.inl ⟨by rfl, fun _ _ => run_mv rfl rfl⟩) hH0 ?_
  try simp only [Act.put, List.getElem_toArray, List.getElem_cons_zero, List.getElem_cons_succ, List.setIfInBounds_toArray, List.set_cons_zero, List.set_cons_succ]
  refine wpAnyH_take (i := 2) (v := .slice a L.length c) rfl (by kernel_rfl) (by kernel_rfl) (by kernel_rfl) (fun _ _ _ h => h) (Or.inl ⟨by rfl, fun _ _ => run_mv rfl rfl⟩) hH0 ?_
  try simp only [Act.put, List.getElem_toArray, List.getElem_cons_zero, List.getElem_cons_succ, List.setIfInBounds_toArray, List.set_cons_zero, List.set_cons_succ]
  refine wpAnyH_take (i := 3) (v := .int .i64 (L.length : Int)) rfl (by kernel_rfl) (by kernel_rfl) (by kernel_rfl) (fun _ _ _ h => h) (Or.inl ⟨by rfl, fun _ _ => lenli rfl rfl⟩) hH0 ?_
  try simp only [Act.put, List.getElem_toArray, List.getElem_cons_zero, List.getElem_cons_succ, List.setIfInBounds_toArray, List.set_cons_zero, List.set_cons_succ]
  refine wpAnyH_take (i := 4) (v := .int .i64 (q : Int)) rfl (by kernel_rfl) (by kernel_rfl) (by kernel_rfl) (fun _ _ _ h => h) (Or.inl ⟨by rfl, fun ww _ => by rw [hmin]; go_simp⟩) hH0 ?_
  try simp only [Act.put, List.getElem_toArray, List.getElem_cons_zero, List.getElem_cons_succ, List.setIfInBounds_toArray, List.set_cons_zero, List.set_cons_succ]
  refine wpAnyH_take (i := 5) (v := vt) rfl (by kernel_rfl) (by kernel_rfl) (by kernel_rfl) (fun _ _ _ h => h) (Or.inl ⟨by rfl, fun ww _ => by clear hmin; have := hT ww; clear hT; go_simp⟩) hH0 ?_
  try simp only [Act.put, List.getElem_toArray, List.getElem_cons_zero, List.getElem_cons_succ, List.setIfInBounds_toArray, List.set_cons_zero, List.set_cons_succ]
  refine wpAnyH_take (i := 6) (v := .slice a L.length c) rfl (by kernel_rfl) (by kernel_rfl) (by kernel_rfl) (fun _ _ _ h => h) (Or.inl ⟨by rfl, fun _ _ => run_mv rfl rfl⟩) hH0 ?_
  try simp only [Act.put, List.getElem_toArray, List.getElem_cons_zero, List.getElem_cons_succ, List.setIfInBounds_toArray, List.set_cons_zero, List.set_cons_succ]
  refine wpAnyH_take (i := 10) (v := .slice a L.length c) rfl (by kernel_rfl) (by kernel_rfl) (by kernel_rfl) (fun _ _ _ h => h) (Or.inl ⟨by rfl, fun _ _ => run_mv rfl rfl⟩) hH0 ?_
  try simp only [Act.put, List.getElem_toArray, List.getElem_cons_zero, List.getElem_cons_succ, List.setIfInBounds_toArray, List.set_cons_zero, List.set_cons_succ]
  refine wpAnyH_ready (rs := [7]) (by kernel_rfl) (by simp) ?_
  refine AllReadyH.cons rfl (fun K1 hK1 => ?_) AllReadyH.nil
  (dsimp only [List.getElem_toArray, List.getElem_cons_zero, List.getElem_cons_succ])
  rw [if_pos (by rfl)]
  go_simp
  go_at_call 31
  have HX := HA1.out w1.drew (below_drew B1.out)
  (with_reducible refine HX.mono ?_)
  clear HX
  rintro e w2 ⟨rfl, hb2⟩; have D2 : Below w1.heap.size w1 w2 := (by first | exact hb2 | exact (Below.refl _ _).drew.trans hb2); have Q2 := Lib.hid (Q1.out.go D2); have R2 := Lib.hid (R1.out.go D2); have B2 := Lib.hid (bgo B1.out D2); clear hb2 D2 Q1 R1 B1
  refine hK1.out _ _ (R2.out) (fun hH1 => ?_)
  clear hK1 K1
  try simp only [Act.put, List.getElem_toArray, List.getElem_cons_zero, List.getElem_cons_succ, List.setIfInBounds_toArray, List.set_cons_zero, List.set_cons_succ]
  refine wpAnyH_take (i := 8) (v := .int .i64 ((soN L : Nat) : Int)) rfl (by kernel_rfl) (by kernel_rfl) (by kernel_rfl) (fun _ _ _ h => h) (Or.inl ⟨by rfl, fun ww _ => by go_simp⟩) hH1 ?_
  try simp only [Act.put, List.getElem_toArray, List.getElem_cons_zero, List.getElem_cons_succ, List.setIfInBounds_toArray, List.set_cons_zero, List.set_cons_succ]
  refine wpAnyH_ready (rs := [9]) (by kernel_rfl) (by simp) ?_
  refine AllReadyH.cons rfl (fun K1 hK1 => ?_) AllReadyH.nil
  (dsimp only [List.getElem_toArray, List.getElem_cons_zero, List.getElem_cons_succ])
  rw [if_pos (by rfl)]
  go_simp
  go_at_call 32
  have HX := HIt.out w2 B2.out
  (with_reducible refine HX.mono ?_)
  clear HX
  rintro e w3 ⟨vi, rfl, hoi, hb3⟩; have Q3 := Lib.hid (Q2.out.go hb3); have R3 := Lib.hid (R2.out.go hb3); have B3 := Lib.hid (bgo B2.out hb3); have I3 := Lib.hid hoi.rd; clear hb3 hoi Q2 R2 B2
  refine hK1.out _ _ (R3.out) (fun hH2 => ?_)
  clear hK1 K1
  try simp only [Act.put, List.getElem_toArray, List.getElem_cons_zero, List.getElem_cons_succ, List.setIfInBounds_toArray, List.set_cons_zero, List.set_cons_succ]
  refine wpAnyH_ready (rs := [11]) (by kernel_rfl) (by simp) ?_
  refine AllReadyH.cons rfl (fun K1 hK1 => ?_) AllReadyH.nil
  (dsimp only [List.getElem_toArray, List.getElem_cons_zero, List.getElem_cons_succ])
  rw [if_pos (by rfl)]
  go_simp
  go_at_call 31
  have HX := HA9.out w3 B3.out
  (with_reducible refine HX.mono ?_)
  clear HX
  rintro e w4 ⟨rfl, hb4⟩; have Q4 := Lib.hid (Q3.out.go hb4); have R4 := Lib.hid (R3.out.go hb4); have B4 := Lib.hid (bgo B3.out hb4); have I4 := Lib.hid (I3.out.below hb4); clear hb4 Q3 R3 B3 I3
  refine hK1.out _ _ (R4.out) (fun hH3 => ?_)
  clear hK1 K1
  try simp only [Act.put, List.getElem_toArray, List.getElem_cons_zero, List.getElem_cons_succ, List.setIfInBounds_toArray, List.set_cons_zero, List.set_cons_succ]
  refine wpAnyH_ready (rs := [12]) (by kernel_rfl) (by simp) ?_
  refine AllReadyH.cons rfl (fun K1 hK1 => ?_) AllReadyH.nil
  (dsimp only [List.getElem_toArray, List.getElem_cons_zero, List.getElem_cons_succ])
  rw [if_pos (by rfl)]
  go_simp
  go_at_call 33
  have HX := HCo.out w4
  (with_reducible refine HX.mono ?_)
  clear HX
  rintro e w5 ⟨Z, vc, rfl, hz, hb5⟩; have Q5 := Lib.hid (Q4.out.go hb5); have R5 := Lib.hid (R4.out.go hb5); have B5 := Lib.hid (bgo B4.out hb5); have I5 := Lib.hid (I4.out.below hb5); have Z5 := Lib.hid hz; clear hb5 hz Q4 R4 B4 I4
  refine hK1.out _ _ (R5.out) (fun hH4 => ?_)
  clear hK1 K1
  try simp only [Act.put, List.getElem_toArray, List.getElem_cons_zero, List.getElem_cons_succ, List.setIfInBounds_toArray, List.set_cons_zero, List.set_cons_succ]
  refine wpAnyH_ready (rs := [13]) (by kernel_rfl) (by simp) ?_
  refine AllReadyH.cons rfl (fun K1 hK1 => ?_) AllReadyH.nil
  (dsimp only [List.getElem_toArray, List.getElem_cons_zero, List.getElem_cons_succ])
  rw [if_pos (by rfl)]
  go_simp
  go_at_call 29
  have HX := HF'.out vi vc Z w5 I5.out Z5.out
  (with_reducible refine HX.mono ?_)
  clear HX
  rintro e w6 ⟨u, s, rfl, hst, hps, hb6⟩; obtain ⟨A, rfl, hA, hA1⟩ := (hst _ (Abv.refl _ _)).cells; have Q6 := Lib.hid (Q5.out.go hb6); have R6 := Lib.hid (R5.out.go hb6); have B6 := Lib.hid (bgo B5.out hb6); have S6 := Lib.hid hst; have P6 := Lib.hid hps; have A6 := Lib.hid hA; have Y6 := Lib.hid hA1; have L6 := Lib.hid Q5.out.lt; clear hb6 hst hps hA hA1 Q5 R5 B5 I5 Z5
  refine hK1.out _ _ (R6.out) (fun hH5 => ?_)
  clear hK1 K1
  try simp only [Act.put, List.getElem_toArray, List.getElem_cons_zero, List.getElem_cons_succ, List.setIfInBounds_toArray, List.set_cons_zero, List.set_cons_succ]
  refine wpAnyH_ready (rs := [14]) (by kernel_rfl) (by simp) ?_
  refine AllReadyH.cons rfl (fun K1 hK1 => ?_) AllReadyH.nil
  show ite _ _ _
  refine step_whole (B := A) rfl rfl rfl Q6.out rfl (infSk.trans (by rw [A6.out])) (all_one Y6.out) A6.out ?_
  intro w7 r7 o7
  refine hK1.out _ _ (R6.out.oth o7 (by omega)) (fun hH6 => ?_)
  clear hK1 K1
  try simp only [Act.put, List.getElem_toArray, List.getElem_cons_zero, List.getElem_cons_succ, List.setIfInBounds_toArray, List.set_cons_zero, List.set_cons_succ]
  refine wpAnyH_done (by kernel_rfl) ?_ _
  refine hKK _ _ ?_
  clear hKK
  refine wp_ret ?_
  exact ret_row Tryz.results21 rfl rfl r7 Tryz.underlying48 rfl (infSk.trans (by rw [A6.out])) ⟨_, s, rfl, fun w8 h8 => S6.out _ ((Abv.oth o7 (by have := L6.out; omega)).trans (h8.mono (by have := L6.out; omega))), P6.out, B6.out.trans (o7.1.mono (Nat.le_succ _))⟩
end Go.Proofs.YtjibbnknliamkaaGreatDoor
namespace Go.Proofs.YtjibbnknliamkaaGreatDoor
open Go.RowKit
set_option linter.unusedVariables false
set_option linter.unusedSimpArgs false
theorem ValQ.sum' {a b : FQ} (ha : ValQ a.S a.T a.K a.L) (hb : ValQ b.S b.T b.K b.L) (h : a.S = b.S) : ValQ (sumQ a b).S (sumQ a b).T (sumQ a b).K (sumQ a b).L := by
  obtain ⟨S, T, K, L, s⟩ := a
  obtain ⟨S', T', K', M, s'⟩ := b
  dsimp only at ha hb h
  subst h
  exact ha.sum hb
theorem insQ_val {c : FQ} (h : ValQ c.S c.T c.K c.L) {k : ByteArray} {x : Int} (hi : itemE (byt k) x = 0) : insQE c k x = 0 ∧ insQ c k x = sumQ c (oneQ c.S k x) ∧ ValQ (insQ c k x).S (insQ c k x).T (insQ c k x).K (insQ c k x).L ∧ (insQ c k x).S = c.S := by
  have e : insQE c k x = 0 := by
    unfold insQE
    rw [valQ_of h, if_neg (by decide), hi]
  have e2 : insQ c k x = sumQ c (oneQ c.S k x) := by
    unfold insQ
    rw [e, if_neg (by decide)]
  refine ⟨e, e2, ?_, by rw [e2]; rfl⟩
  rw [e2]
  exact h.sum' (b := oneQ c.S k x) (ValQ.one h.s0 h.s1 hi) rfl
theorem newQ_val {S : Int} (h0 : 1 ≤ S) (h1 : S ≤ 32) : newQ S = ⟨S, 0, 0, [], false⟩ ∧ newQE S = 0 ∧ ValQ S 0 0 [] := by
  refine ⟨by unfold newQ; rw [if_neg (by omega)], by unfold newQE; rw [if_neg (by omega)], ?_⟩
  exact ValQ.mk' h0 h1 (by decide) (by decide) (by decide) (by decide) (by simp; omega) (fun z hz => by cases hz) List.Pairwise.nil
end Go.Proofs.YtjibbnknliamkaaGreatDoor
