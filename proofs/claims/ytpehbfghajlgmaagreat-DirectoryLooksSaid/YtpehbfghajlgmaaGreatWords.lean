/- Nums, Args, Mask, Src, WireNums, ByteRow: in one text. -/
import Derived.Test.YtpehbfghajlgmaaGreatProg
import Derived.WalkKit
import Derived.ProofKit
import Derived.OpenShut
import Derived.ChangeSlices
import Derived.Deep.AppendSrc
import Derived.Laws.BitsAllLaws
import Derived.Lib.BitFns
import Derived.Lib.ItoaNum
import Derived.Laws.BytesArg
import Derived.Handy
import Derived.Lib.Hide
namespace Go.Proofs.YtpehbfghajlgmaaGreat
open Go.RowKit
set_option linter.unusedVariables false
set_option linter.unusedSimpArgs false
/-- n, or 0 where n is negative. -/
def nat0 (n : Int) : Int := max n 0
/-- x limited to m; and whether it had to be. -/
def satN (x m : Int) : Int := if m < x then m else x
def satF (x m : Int) : Bool := decide (m < x)
theorem nat0_bd (n : Int) (h : n ≤ 9223372036854775807) : 0 ≤ nat0 n ∧ nat0 n ≤ 9223372036854775807 := by unfold nat0; omega
theorem nat0_of (n : Int) (h : 0 ≤ n) : nat0 n = n := by unfold nat0; omega
theorem wf_bd {n : Int} (h : (Lit.int .i64 n).wf = true) : -9223372036854775808 ≤ n ∧ n ≤ 9223372036854775807 := by
  simpa [Lit.wf, IntKind.min, IntKind.max, IntKind.signed, IntKind.bits] using h
theorem wf_bdu {n : Int} (h : (Lit.int .u64 n).wf = true) : 0 ≤ n ∧ n ≤ 18446744073709551615 := by
  simpa [Lit.wf, IntKind.min, IntKind.max, IntKind.signed, IntKind.bits] using h
theorem ret_int {k : IntKind} {a b : Int} (h : a = b) : Ending.returned (.int k a) = .returned (.int k b) := by rw [h]
theorem ret_bool {a b : Bool} (h : a = b) : Ending.returned (.bool a) = .returned (.bool b) := by rw [h]
open Go.RowKit Go.ChangeShapes Go.WideShapes
/-- A slice of integers of kind k that came in: a row of the numbers zs, its first len the elements, the rest its spare room; of the address of a slice without room nothing is known. -/
def InRow (k : IntKind) (w : World) (a : Option Addr) (len cap : Nat) (zs : List Int) : Prop :=
  len ≤ cap ∧ cap ≤ maxLen ∧ zs.length = cap ∧ (∀ n ∈ zs, (Lit.int k n).wf = true) ∧ (0 < cap → ∃ b off, a = some ⟨b, off, none⟩ ∧ b < w.heap.size ∧ ∀ j, j < cap → w.cell? ⟨b, off + j, none⟩ = some (.int k (zs.getD j 0)))
theorem inRow_of {H : Type} {enc : TypeId × Value → H} {P : Program} {w : World} {t e : TypeId} {k : IntKind} {fuel : Nat} {x : DataW H × List MemPlace} {a : Option Addr} {len cap : Nat}
    (ht : P.underlying t = some (.slice e)) (he : P.underlying e = some (.int k)) (hc : P.cellsOf e = 1) (h : DataW.trod enc P w 0 (fun _ => true) true fuel t [.slice a len cap] = some x) : ∃ zs, InRow k w a len cap zs := by
  rcases open_ints ht he hc h with ⟨hcs, _⟩ | ⟨y, l, c, zs, hcs, _, hl, hm, hz, _, hcell, hwz⟩
  · simp only [List.cons.injEq, Value.slice.injEq, and_true] at hcs
    obtain ⟨rfl, rfl, rfl⟩ := hcs
    exact ⟨[], by omega, by simp [maxLen], rfl, by simp, fun h => by omega⟩
  · simp only [List.cons.injEq, Value.slice.injEq, and_true] at hcs
    obtain ⟨rfl, rfl, rfl⟩ := hcs
    have hz' : zs.length = cap := by simpa using hz
    refine ⟨zs, hl, hm, hz', hwz, fun hp => ?_⟩
    obtain ⟨b, off, rfl, hx⟩ := ints_at hcell (by omega)
    exact ⟨b, off, rfl, block_lt_of_cell (hx 0 (by omega)), fun j hj => hx j (by omega)⟩
/-- A slice with an element: where it lies, and its cells, in a world in which nothing old has turned. -/
theorem InRow.at_ {k : IntKind} {w w' : World} {a : Option Addr} {len cap : Nat} {zs : List Int} (h : InRow k w a len cap zs) (hp : 0 < len) (hb : Below w.heap.size w w') :
    ∃ b off, a = some ⟨b, off, none⟩ ∧ b < w.heap.size ∧ ∀ j, j < len → w'.cell? ⟨b, off + j, none⟩ = some (.int k (zs.getD j 0)) := by
  obtain ⟨h1, h2, h3, h4, h5⟩ := h
  obtain ⟨b, off, rfl, hlt, hc⟩ := h5 (by omega)
  exact ⟨b, off, rfl, hlt, fun j hj => (hb.cell (p := ⟨b, off + j, none⟩) hlt).trans (hc j (by omega))⟩
theorem i64_mask (k : Nat) (hk : k < 63) (n : Int) : bits .and .i64 n ((2 ^ k - 1 : Nat) : Int) = n % ((2 ^ k : Nat) : Int) := by
  have hp : 2 ^ k ≤ 2 ^ 62 := Nat.pow_le_pow_right (by decide) (by omega)
  have h62 : (2 : Nat) ^ 62 = 4611686018427387904 := by decide
  have hpos : 0 < 2 ^ k := Nat.two_pow_pos k
  have hm : (BitVec.ofInt 64 ((2 ^ k - 1 : Nat) : Int)).toNat = 2 ^ k - 1 := by
    rw [BitVec.ofInt_natCast, BitVec.toNat_ofNat]; exact Nat.mod_eq_of_lt (by omega)
  have key : (BitVec.ofInt 64 n &&& BitVec.ofInt 64 ((2 ^ k - 1 : Nat) : Int)).toNat = (n % ((2 ^ 64 : Nat) : Int)).toNat % 2 ^ k := by
    rw [BitVec.toNat_and, BitVec.toNat_ofInt, hm, Nat.and_two_pow_sub_one_eq_mod]
  have hdvd : (((2 ^ k : Nat) : Int)) ∣ ((2 ^ 64 : Nat) : Int) := Int.natCast_dvd_natCast.2 (Nat.pow_dvd_pow 2 (by omega))
  have hemod := Int.emod_emod_of_dvd n hdvd
  have h0 : 0 ≤ n % ((2 ^ 64 : Nat) : Int) := Int.emod_nonneg n (by decide)
  have hl : n % ((2 ^ k : Nat) : Int) < ((2 ^ k : Nat) : Int) := Int.emod_lt_of_pos n (by omega)
  have hn : 0 ≤ n % ((2 ^ k : Nat) : Int) := Int.emod_nonneg n (by omega)
  show IntKind.i64.wrap ((BitVec.ofInt 64 n &&& BitVec.ofInt 64 ((2 ^ k - 1 : Nat) : Int)).toNat : Int) = n % ((2 ^ k : Nat) : Int)
  rw [key, Int.natCast_emod, Int.toNat_of_nonneg h0, hemod, IntKind.wrap_i64]
  omega
theorem i64_mask40 (n : Int) : bits .and .i64 n 1099511627775 = n % 1099511627776 := i64_mask 40 (by decide) n
theorem i64_mask41 (n : Int) : bits .and .i64 n 2199023255551 = n % 2199023255552 := i64_mask 41 (by decide) n
theorem i64_mask30 (n : Int) : bits .and .i64 n 1073741823 = n % 1073741824 := i64_mask 30 (by decide) n
theorem i64_mask20 (n : Int) : bits .and .i64 n 1048575 = n % 1048576 := i64_mask 20 (by decide) n
theorem u64_bit (x j : Nat) (hx : x < 18446744073709551616) : bits .and .u64 ((x : Int) / 2 ^ j) 1 = if x.testBit j then 1 else 0 := by
  have e : (x : Int) / 2 ^ j = ((x / 2 ^ j : Nat) : Int) := by simp
  have hle : x / 2 ^ j ≤ x := Nat.div_le_self _ _
  rw [e]
  have h := bits_and_u64_nat (x / 2 ^ j) 1 (by omega) (by omega)
  rw [Nat.and_one_is_mod] at h
  have h' : bits .and .u64 ((x / 2 ^ j : Nat) : Int) 1 = ((x / 2 ^ j % 2 : Nat) : Int) := h
  rw [h', Nat.testBit_eq_decide_div_mod_eq]
  by_cases hb : x / 2 ^ j % 2 = 1
  · simp [hb]
  · have : x / 2 ^ j % 2 = 0 := by omega
    simp [this]
theorem i64_bit (x j : Nat) (hx : x < 9223372036854775808) : bits .and .i64 ((x : Int) / 2 ^ j) 1 = if x.testBit j then 1 else 0 := by
  have e : (x : Int) / 2 ^ j = ((x / 2 ^ j : Nat) : Int) := by simp
  rw [e]
  have h := i64_mask 1 (by decide) ((x / 2 ^ j : Nat) : Int)
  have h' : bits .and .i64 ((x / 2 ^ j : Nat) : Int) 1 = ((x / 2 ^ j % 2 : Nat) : Int) := by
    rw [Int.natCast_emod]; exact h
  rw [h', Nat.testBit_eq_decide_div_mod_eq]
  by_cases hb : x / 2 ^ j % 2 = 1
  · simp [hb]
  · have : x / 2 ^ j % 2 = 0 := by omega
    simp [this]
section
variable {P : Program} (w : World)
theorem run_own_room (t tx ty e : TypeId) (i : TypeInfo) (ht : P.underlying t = some (.slice e)) (hi : P.info? e = some i)
    (g sLen sCap : Nat) (cur : Array Value) (hg : w.heap[g]? = some (.cells cur e (0, 0))) (x : Value) (m : Nat) (news : List Value) (hs : Src P i.size tx x m news w)
    (hroom : sLen + m ≤ sCap) (hfit : sLen * i.size + news.length ≤ cur.size) :
    (Builtin.append_ #[t, tx] ty #[.slice (some ⟨g, 0, none⟩) sLen sCap, x]).run P w =
      .ok (.slice (some ⟨g, 0, none⟩) (sLen + m) sCap) (w.setRow g (cur.toList.take (sLen * i.size) ++ news ++ cur.toList.drop (sLen * i.size + news.length)).toArray) := by
  have hst := run_storeCells_at P g (sLen * i.size) e news 0 cur w hg (by simpa using hfit) hs.one
  simp only [Nat.add_zero] at hst
  rcases hs.kind with ⟨e', hk⟩ | hk <;> simp [Builtin.append_, run_underlying ht, run_underlying hk, sizeOf, typeInfo, hi, hs.len, hroom, hs.cells, Addr.add_lit, hst]
theorem run_own_src (base : Nat) (t tx ty e : TypeId) (i : TypeInfo) (z : Value) (size bytes : Nat) (ht : P.underlying t = some (.slice e)) (hi : P.info? e = some i) (hz : i.zero = some z)
    (hsize : i.size = size) (hby : i.bytes = bytes) (hzs : z.cells.size = size) (hsz : 0 < size)
    (v : Value) (n : Nat) (xs : List Value) (hown : w.ownsRow base e size v n xs) (x : Value) (m : Nat) (news : List Value) (hs : Src P size tx x m news w)
    (h63 : n + m ≤ maxLen) (hbytes : (n + m) * bytes ≤ 140737488355328) (hbase : base ≤ w.heap.size) :
    ∃ v' w', (Builtin.append_ #[t, tx] ty #[v, x]).run P w = .ok v' w' ∧ w'.ownsRow base e size v' (n + m) (xs ++ news) ∧ w.grownBy w' v.ownBlock := by
  subst hsize
  subst hby
  have hl := hs.newsLen
  have hsmall : ((n + m : Nat) : Int) ≤ 9223372036854775807 := by simp only [maxLen] at h63; omega
  have hlen : (xs ++ news).length = (n + m) * i.size := by rw [List.length_append, hown.1, hl, Nat.add_mul]
  have grown : ∀ (old : Nat), old < n + m → ∀ (row : Option Nat),
      (w.drew.alloc (.cells ((xs ++ news).toArray ++ Builtin.zeroCells z.cells (grownCap w (n + m) old e - (n + m))) e)).ownsRow base e i.size
        (.slice (some ⟨w.heap.size, 0, none⟩) (n + m) (grownCap w (n + m) old e)) (n + m) (xs ++ news) ∧
      w.grownBy (w.drew.alloc (.cells ((xs ++ news).toArray ++ Builtin.zeroCells z.cells (grownCap w (n + m) old e - (n + m))) e)) row := by
    intro old ho row
    have hge := grownCap_ge w (n + m) old e
    have hcm : grownCap w (n + m) old e ≤ maxLen := grownCap_le_maxLen w (n + m) old e h63
    refine ⟨⟨hlen, .inr ⟨w.heap.size, _, _, rfl, hbase, Go.heap_alloc_new w.drew _, hge, hcm, ?_, ?_⟩⟩, ⟨rfl, rfl, rfl, by simp, fun k hk _ => Go.heap_alloc_old w.drew _ hk⟩⟩
    · rw [Array.size_append, List.size_toArray, size_zeroCells, hzs, hlen, ← Nat.add_mul]
      congr 1
      omega
    · rw [Array.toList_append]
      rw [← hlen]
      exact List.take_left
  rcases hown.2 with ⟨rfl, rfl⟩ | ⟨g, cap, cur, rfl, hbg, hg, hnc, hcm, hcs, htake⟩
  · have hx : xs = [] := List.eq_nil_of_length_eq_zero (by simpa using hown.1)
    subst hx
    by_cases hm : m = 0
    · subst hm
      have hn : news = [] := List.eq_nil_of_length_eq_zero (by simpa using hl)
      subst hn
      refine ⟨.slice none 0 0, w, ?_, World.ownsRow_nil w base e i.size, ⟨rfl, rfl, rfl, Nat.le_refl _, fun _ _ _ => rfl⟩⟩
      rcases hs.kind with ⟨e', hk⟩ | hk <;> simp [Builtin.append_, run_underlying ht, run_underlying hk, sizeOf, typeInfo, hi, hs.len, hs.cells, loadCells, loadCellsFrom, storeCells]
    · have hr := run_append_grow_src (P := P) w t tx ty e i z ht hi hz none 0 0 [] (run_firstCells_none w.drew i.size 0 0 0) x m news hs (by omega) hsmall (growslice_fits (by omega) hbytes)
      have hgr := grown 0 (by omega) (Value.ownBlock (.slice none 0 0))
      exact ⟨_, _, hr, hgr.1, hgr.2⟩
  · by_cases hroom : n + m ≤ cap
    · have hfit : n * i.size + news.length ≤ cur.size := by rw [hl, hcs, ← Nat.add_mul]; exact Nat.mul_le_mul_right _ hroom
      have hr := run_own_room (P := P) w t tx ty e i ht hi g n cap cur hg x m news hs hroom hfit
      refine ⟨_, _, hr, ⟨hlen, .inr ⟨g, cap, _, rfl, hbg, setRow_heap w g cur _ e _ hg, hroom, hcm, ?_, ?_⟩⟩, ⟨rfl, rfl, rfl, by simp, fun k _ hk => setRow_other w g k _ (fun e => hk (by simp [Value.ownBlock, e]))⟩⟩
      · simp only [List.size_toArray, List.length_append, List.length_take, List.length_drop, Array.length_toList]
        omega
      · rw [htake, ← hlen]
        exact List.take_left
    · have holds : ∀ j u, xs[j]? = some u → w.drew.cell? ((⟨g, 0, none⟩ : Addr).add j) = some u := hown.cells (g := g) rfl
      have hr := run_append_grow_src (P := P) w t tx ty e i z ht hi hz (some ⟨g, 0, none⟩) n cap xs (run_firstCells_some w.drew i.size n ⟨g, 0, none⟩ n cap xs hown.1 holds) x m news hs (by omega) hsmall (growslice_fits (by omega) hbytes)
      have hgr := grown cap (by omega) (Value.ownBlock (.slice (some ⟨g, 0, none⟩) n cap))
      exact ⟨_, _, hr, hgr.1, hgr.2⟩
theorem wpList_own_src {ops : Array Oper} {rest : List Oper} {o : Oper} {a : Act} {Q : Exit → Act → World → Prop} (hgd : o.guard = none) (s x : Operand) (t tx : TypeId)
    (ho : o.op = .call { callee := .builtin .append, args := #[s, x], argTypes := #[t, tx] })
    (base : Nat) (e : TypeId) (i : TypeInfo) (z : Value) (size bytes : Nat) (ht : P.underlying t = some (.slice e)) (hi : P.info? e = some i) (hz : i.zero = some z)
    (hsize : i.size = size) (hby : i.bytes = bytes) (hzs : z.cells.size = size) (hsz : 0 < size)
    (v : Value) (n : Nat) (xs : List Value) (hs : a.eval s = v) (hown : w.ownsRow base e size v n xs)
    (u : Value) (m : Nat) (news : List Value) (hx : a.eval x = u) (hsrc : Src P size tx u m news w)
    (h63 : n + m ≤ maxLen) (hbytes : (n + m) * bytes ≤ 140737488355328) (hbase : base ≤ w.heap.size)
    (h : ∀ v' w', w'.ownsRow base e size v' (n + m) (xs ++ news) → w.grownBy w' v.ownBlock → wpList P ops Q rest (a.put o.dst v') w') : wpList P ops Q (o :: rest) a w :=
  wpList_plain hgd fun _ hK => by
    obtain ⟨v', w', hr, h2, h3⟩ := run_own_src (P := P) w base t tx o.type e i z size bytes ht hi hz hsize hby hzs hsz v n xs hown u m news hsrc h63 hbytes hbase
    unfold Oper.wp execOp
    simp only [ho, resolve, invoke, builtin, Sem.run_bind, Sem.run_pure, Result.andThen_ok, List.map_toArray, List.map_cons, List.map_nil, hs, hx, hr]
    exact hK _ _ (h v' w' h2 h3)
end
/-- Each is a byte. -/
def Byt (L : List Int) : Prop := ∀ n ∈ L, 0 ≤ n ∧ n ≤ 255
theorem Byt.nil : Byt [] := fun _ h => by cases h
theorem Byt.cons {c : Int} {L : List Int} (h0 : 0 ≤ c ∧ c ≤ 255) (h : Byt L) : Byt (c :: L) := fun n hn => by
  rcases List.mem_cons.1 hn with rfl | hn
  · exact h0
  · exact h n hn
theorem Byt.app {L M : List Int} (h : Byt L) (k : Byt M) : Byt (L ++ M) := fun n hn => by
  rcases List.mem_append.1 hn with hn | hn
  · exact h n hn
  · exact k n hn
theorem Byt.take {L : List Int} (h : Byt L) (k : Nat) : Byt (L.take k) := fun n hn => h n (List.mem_of_mem_take hn)
theorem Byt.drop {L : List Int} (h : Byt L) (k : Nat) : Byt (L.drop k) := fun n hn => h n (List.mem_of_mem_drop hn)
theorem Byt.at_ {L : List Int} (h : Byt L) (k : Nat) : 0 ≤ L.getD k 0 ∧ L.getD k 0 ≤ 255 := by
  by_cases hk : k < L.length
  · have : L.getD k 0 = L[k] := by simp [List.getD, hk]
    rw [this]
    exact h _ (List.getElem_mem hk)
  · have : L.getD k 0 = 0 := by simp [List.getD, List.getElem?_eq_none (show L.length ≤ k by omega)]
    rw [this]; omega
theorem snoc_ind {p : List Int → Prop} (h0 : p []) (h1 : ∀ L c, p L → p (L ++ [c])) (L : List Int) : p L := by
  have h : ∀ R : List Int, p R.reverse := by
    intro R
    induction R with
    | nil => exact h0
    | cons c R ih => rw [List.reverse_cons]; exact h1 _ c ih
  have := h L.reverse
  rwa [List.reverse_reverse] at this
/-- x as k bytes, the most significant byte first. -/
def be (x : Nat) : Nat → List Int
  | 0 => []
  | k + 1 => ((x / 256 ^ k % 256 : Nat) : Int) :: be x k
theorem be_len (x : Nat) : ∀ k, (be x k).length = k
  | 0 => rfl
  | k + 1 => by rw [be, List.length_cons, be_len x k]
theorem be_byt (x : Nat) : ∀ k, Byt (be x k)
  | 0 => Byt.nil
  | k + 1 => Byt.cons (by omega) (be_byt x k)
theorem be_snoc (x : Nat) : ∀ k, be x (k + 1) = be (x / 256) k ++ [((x % 256 : Nat) : Int)]
  | 0 => by simp [be]
  | k + 1 => by
    rw [be, be_snoc x k, be]
    have : x / 256 / 256 ^ k = x / 256 ^ (k + 1) := by rw [Nat.div_div_eq_div_mul, Nat.pow_succ, Nat.mul_comm]
    rw [this]
    rfl
/-- The number that bytes are. -/
def val (L : List Int) : Int := L.foldl (fun x c => x * 256 + c) 0
theorem val_nil : val [] = 0 := rfl
theorem val_snoc (L : List Int) (c : Int) : val (L ++ [c]) = val L * 256 + c := by simp [val]
theorem val_bd : ∀ (L : List Int), Byt L → 0 ≤ val L ∧ val L < ((256 ^ L.length : Nat) : Int) := by
  intro L
  induction L using snoc_ind with
  | h0 => intro _; simp [val]
  | h1 L c ih =>
    intro h
    obtain ⟨h0, h1⟩ := ih (fun n hn => h n (by simp [hn]))
    have hc := h c (by simp)
    rw [val_snoc, List.length_append, List.length_singleton, Nat.pow_succ]
    generalize 256 ^ L.length = p at *
    omega
theorem be_val : ∀ (L : List Int), Byt L → be (val L).toNat L.length = L := by
  intro L
  induction L using snoc_ind with
  | h0 => intro _; rfl
  | h1 L c ih =>
    intro h
    have hL : Byt L := fun n hn => h n (by simp [hn])
    have hc := h c (by simp)
    have h0 := (val_bd L hL).1
    rw [val_snoc, List.length_append, List.length_singleton, be_snoc]
    have e1 : (val L * 256 + c).toNat / 256 = (val L).toNat := by omega
    have e2 : (((val L * 256 + c).toNat % 256 : Nat) : Int) = c := by omega
    rw [e1, e2, ih hL]
theorem val_be (x : Nat) : ∀ k, x < 256 ^ k → val (be x k) = (x : Int) := by
  intro k
  induction k generalizing x with
  | zero => intro h; have : x = 0 := by simpa using h
            subst this; rfl
  | succ k ih =>
    intro h
    rw [be_snoc, val_snoc, ih (x / 256) (by rw [Nat.pow_succ] at h; omega)]
    omega
/-- The number of bytes of a number. -/
def nb (x : Nat) : Nat := (Lib.bitLen x + 7) / 8
theorem nb_bd (x : Nat) (h0 : 0 < x) (h : x < 18446744073709551616) : 1 ≤ nb x ∧ nb x ≤ 8 ∧ 256 ^ (nb x - 1) ≤ x ∧ x < 256 ^ nb x := by
  obtain ⟨h1, h2, h3⟩ := Lib.bitLenAux_bounds 64 x h (by omega)
  have h4 : Lib.bitLenAux 64 x ≤ 64 := Lib.bitLenAux_le 64 x 64 h
  have e : Lib.bitLen x = Lib.bitLenAux 64 x := rfl
  unfold nb
  rw [e]
  generalize Lib.bitLenAux 64 x = b at *
  refine ⟨by omega, by omega, ?_, ?_⟩
  · have : (256 : Nat) = 2 ^ 8 := rfl
    rw [this, ← Nat.pow_mul]
    exact Nat.le_trans (Nat.pow_le_pow_right (by decide) (by omega)) h2
  · have : (256 : Nat) = 2 ^ 8 := rfl
    rw [this, ← Nat.pow_mul]
    exact Nat.lt_of_lt_of_le h3 (Nat.pow_le_pow_right (by decide) (by omega))
theorem nb_of {x k : Nat} (h0 : 0 < x) (h : x < 18446744073709551616) (hk : 1 ≤ k) (hl : 256 ^ (k - 1) ≤ x) (hu : x < 256 ^ k) : nb x = k := by
  obtain ⟨h1, h2, h3, h4⟩ := nb_bd x h0 h
  rcases Nat.lt_trichotomy (nb x) k with hlt | he | hgt
  · exfalso
    have : 256 ^ nb x ≤ 256 ^ (k - 1) := Nat.pow_le_pow_right (by decide) (by omega)
    omega
  · exact he
  · exfalso
    have : 256 ^ k ≤ 256 ^ (nb x - 1) := Nat.pow_le_pow_right (by decide) (by omega)
    omega
/-- The encoding of a number. -/
def uintB (x : Nat) : List Int := if x < 248 then [(x : Int)] else ((247 + nb x : Nat) : Int) :: be x (nb x)
/-- What is read as a number: the number, the bytes that it takes, the error. -/
def decU (L : List Int) : Int × Int × Int :=
  if L.length = 0 then (0, 0, 3)
  else if L.getD 0 0 < 248 then (L.getD 0 0, 1, 0)
  else if (L.length : Int) < L.getD 0 0 - 246 then (0, 0, 3)
  else if L.getD 1 0 = 0 ∨ val ((L.take (L.getD 0 0 - 246).toNat).drop 1) < 248 ∨ 4611686018427387904 < val ((L.take (L.getD 0 0 - 246).toNat).drop 1) then (0, 0, 2)
  else (val ((L.take (L.getD 0 0 - 246).toNat).drop 1), L.getD 0 0 - 246, 0)
/-- The two sums of a checksum. -/
def sumU (L : List Int) : Int := L.foldl (fun u c => (u + c) % 65521) 1
def sumsUV (L : List Int) : Int × Int := L.foldl (fun p c => ((p.1 + c) % 65521, (p.2 + (p.1 + c) % 65521) % 65521)) (1, 0)
def adler (L : List Int) : Int := (sumsUV L).2 * 65536 + (sumsUV L).1
theorem sums_snoc (L : List Int) (c : Int) : sumsUV (L ++ [c]) = (((sumsUV L).1 + c) % 65521, ((sumsUV L).2 + ((sumsUV L).1 + c) % 65521) % 65521) := by simp [sumsUV]
theorem sums_bd (L : List Int) : 0 ≤ (sumsUV L).1 ∧ (sumsUV L).1 < 65521 ∧ 0 ≤ (sumsUV L).2 ∧ (sumsUV L).2 < 65521 := by
  induction L using snoc_ind with
  | h0 => decide
  | h1 L c ih => rw [sums_snoc]; dsimp only; omega
theorem take_snoc (L : List Int) (k : Nat) (h : k < L.length) : L.take (k + 1) = L.take k ++ [L.getD k 0] := by
  rw [List.take_succ_eq_append_getElem h]
  simp [List.getD, h]
theorem info_u8 : (Tryz.prog.info? 5).map (fun i => (i.zero, i.size, i.bytes)) = some (some (.int .u8 0), 1, 1) := by kernel_rfl
def cells8 (L : List Int) : List Value := L.map (Value.int .u8)
theorem cells8_len (L : List Int) : (cells8 L).length = L.length := by simp [cells8]
theorem cells8_at {L : List Int} {j : Nat} (h : j < L.length) : (cells8 L)[j]? = some (.int .u8 (L.getD j 0)) := by simp [cells8, List.getD, h]
theorem cells8_app (L M : List Int) : cells8 (L ++ M) = cells8 L ++ cells8 M := by simp [cells8]
/-- A slice of bytes of the call's own. -/
def Own (B : Nat) (L : List Int) (v : Value) (w : World) : Prop := Byt L ∧ w.ownsRow B 5 1 v L.length (cells8 L)
/-- A slice of bytes that can be read. -/
def Rd (L : List Int) (v : Value) (w : World) : Prop :=
  Byt L ∧ ∃ a cap, v = .slice a L.length cap ∧ L.length ≤ cap ∧ cap ≤ maxLen ∧ (0 < L.length → ∃ b off, a = some ⟨b, off, none⟩ ∧ b < w.heap.size ∧ ∀ j, j < L.length → w.cell? ⟨b, off + j, none⟩ = some (.int .u8 (L.getD j 0)))
theorem Rd.below {L : List Int} {v : Value} {w w' : World} (h : Rd L v w) (hb : Below w.heap.size w w') : Rd L v w' := by
  obtain ⟨hy, a, cap, rfl, h1, h2, h3⟩ := h
  refine ⟨hy, a, cap, rfl, h1, h2, fun hp => ?_⟩
  obtain ⟨b, off, rfl, hlt, hc⟩ := h3 hp
  exact ⟨b, off, rfl, Nat.lt_of_lt_of_le hlt hb.size, fun j hj => (hb.cell (p := ⟨b, off + j, none⟩) hlt).trans (hc j hj)⟩
theorem Own.rd {B : Nat} {L : List Int} {v : Value} {w : World} (h : Own B L v w) : Rd L v w := by
  obtain ⟨hy, ho⟩ := h
  have hl := World.ownsRow.lt ho
  refine ⟨hy, ?_⟩
  rcases ho.2 with ⟨rfl, hn⟩ | ⟨g, cap, cur, rfl, hb, _, h1, h2, _⟩
  · exact ⟨none, 0, by rw [hn], by omega, by simp [maxLen], fun hp => by omega⟩
  · exact ⟨some ⟨g, 0, none⟩, cap, rfl, h1, h2, fun hp => ⟨g, 0, rfl, (hl g rfl).2, fun j hj => by
      rw [Nat.zero_add]; exact (World.ownsRow.cellAt ho j (by omega)).trans (cells8_at hj)⟩⟩
theorem Own.shape {B : Nat} {L : List Int} {v : Value} {w : World} (h : Own B L v w) : ∃ a cap, v = .slice a L.length cap := by
  obtain ⟨_, a, cap, rfl, _⟩ := h.rd
  exact ⟨a, cap, rfl⟩
/-- Owned from a higher block on. -/
theorem Own.mono {B B' : Nat} {L : List Int} {v : Value} {w : World} (h : Own B L v w) (hB : B' ≤ B) : Own B' L v w := by
  obtain ⟨hy, h1, h2⟩ := h
  refine ⟨hy, h1, ?_⟩
  rcases h2 with h2 | ⟨g, cap, cur, rfl, hb, r⟩
  · exact .inl h2
  · exact .inr ⟨g, cap, cur, rfl, Nat.le_trans hB hb, r⟩
theorem Own.alloc {B : Nat} {L : List Int} {v : Value} {w : World} (h : Own B L v w) (o : Obj) : Own B L v (w.alloc o) := ⟨h.1, World.ownsRow.alloc h.2 o⟩
/-- What is owned stays owned where nothing old turns. -/
theorem Own.below {B : Nat} {L : List Int} {v : Value} {w w' : World} (h : Own B L v w) (hb : Below w.heap.size w w') : Own B L v w' := by
  obtain ⟨hy, h1, h2⟩ := h
  refine ⟨hy, h1, ?_⟩
  rcases h2 with h2 | ⟨g, cap, cur, rfl, hb', hg, r⟩
  · exact .inl h2
  · exact .inr ⟨g, cap, cur, rfl, hb', (hb.block g (Array.getElem?_eq_some_iff.1 hg).1).trans hg, r⟩
theorem Own.empty (B : Nat) (w : World) : Own B [] (.slice none 0 0) w := ⟨Byt.nil, World.ownsRow_nil _ _ _ _⟩
theorem Own.one {c : Int} (hc : 0 ≤ c ∧ c ≤ 255) (w : World) : Own w.heap.size [c] (.slice (some ⟨w.heap.size, 0, none⟩) 1 1) (w.alloc (.cells #[.int .u8 c] 5)) :=
  ⟨Byt.cons hc Byt.nil, rfl, .inr ⟨w.heap.size, 1, #[.int .u8 c], rfl, Nat.le_refl _, Go.heap_alloc_new w _, Nat.le_refl _, by decide, rfl, rfl⟩⟩
/-- What may be appended: the bytes M. -/
def From (M : List Int) (tx : TypeId) (u : Value) (w : World) : Prop := Byt M ∧ Src Tryz.prog 1 tx u M.length (cells8 M) w
/-- A string's bytes as numbers. -/
def byt (s : ByteArray) : List Int := s.data.toList.map fun b => (b.toNat : Int)
theorem byt_len (s : ByteArray) : (byt s).length = s.size := by
  unfold byt
  rw [List.length_map, Array.length_toList]
  rfl
theorem byt_byt (s : ByteArray) : Byt (byt s) := fun n hn => by
  obtain ⟨b, _, rfl⟩ := List.mem_map.1 hn
  have := UInt8.toNat_lt b
  omega
theorem byt_src (s : ByteArray) (w : World) : From (byt s) 9 (.string s) w := by
  refine ⟨byt_byt s, ?_⟩
  have h := Src.ofString (P := Tryz.prog) w Tryz.underlying9 s
  have e : byteCells s = cells8 (byt s) := by simp [byteCells, cells8, byt]
  rw [← e, byt_len]
  exact h
theorem str_byt (s : ByteArray) : strOfNums (byt s) = s := by
  obtain ⟨d⟩ := s
  have e : ((fun n : Int => UInt8.ofNat n.toNat) ∘ fun b : UInt8 => (b.toNat : Int)) = id := by
    funext b
    simp
  simp only [strOfNums, byt, List.map_map, e, List.map_id]
theorem byt_str {L : List Int} (h : Byt L) : byt (strOfNums L) = L := by
  simp only [byt, strOfNums, List.map_map, List.toList_toArray]
  have : ∀ n ∈ L, ((fun b : UInt8 => (b.toNat : Int)) ∘ fun n : Int => UInt8.ofNat n.toNat) n = n := fun n hn => by
    have := h n hn
    simp only [Function.comp, UInt8.toNat_ofNat']
    omega
  rw [List.map_congr_left this]
  simp
theorem str_size (L : List Int) : (strOfNums L).size = L.length := by
  show (strOfNums L).data.size = L.length
  simp [strOfNums]
/-- A slice of a slice. -/
theorem Rd.cut {L : List Int} {b off n cap : Nat} {w : World} (h : Rd L (.slice (some ⟨b, off, none⟩) n cap) w) (lo hi : Nat) (h1 : lo ≤ hi) (h2 : hi ≤ L.length) (a' : Option Addr) (ha : lo < cap → a' = some ⟨b, off + lo, none⟩) {m c : Nat} (hm : m = hi - lo) (hc : c = cap - lo) : Rd ((L.take hi).drop lo) (.slice a' m c) w := by
  obtain ⟨hy, a, cap', he, h3, h4, h5⟩ := h
  simp only [Value.slice.injEq] at he
  obtain ⟨rfl, rfl, rfl⟩ := he
  subst hm hc
  have hl : ((L.take hi).drop lo).length = hi - lo := by simp; omega
  refine ⟨(hy.take hi).drop lo, a', cap - lo, by rw [hl], by rw [hl]; omega, by omega, fun hp => ?_⟩
  rw [hl] at hp
  obtain ⟨b', off', he, hlt, hcell⟩ := h5 (by omega)
  simp only [Option.some.injEq, Addr.mk.injEq, and_true] at he
  obtain ⟨rfl, rfl⟩ := he
  refine ⟨b, off + lo, ha (by omega), hlt, fun j hj => ?_⟩
  rw [hl] at hj
  rw [Nat.add_assoc, hcell (lo + j) (by omega)]
  have : ((L.take hi).drop lo).getD j 0 = L.getD (lo + j) 0 := by
    simp only [List.getD, List.getElem?_drop, List.getElem?_take]
    rw [if_pos (by omega)]
  rw [this]
section
variable {w : World}
end
end Go.Proofs.YtpehbfghajlgmaaGreat
