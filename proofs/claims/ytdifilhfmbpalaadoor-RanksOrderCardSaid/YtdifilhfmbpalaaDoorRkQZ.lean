/- RkF, RkCc, RkQt, RRkQt: in one text. -/
import Derived.Test.YtdifilhfmbpalaaDoorRkZ
import Derived.Test.YtdifilhfmbpalaaDoorDivs
import Derived.Lib.AppendZeros
import Derived.Lib.SliceRun
import Derived.Deep.RegionHeld3
namespace Go.Proofs.YtdifilhfmbpalaaDoor
open Go.RowKit
set_option linter.unusedVariables false
set_option linter.unusedSimpArgs false
theorem cntK_mono {a b : ByteArray} (h : lessK b a = false) : ∀ l : List ByteArray, cntK a l ≤ cntK b l
  | [] => Nat.le_refl _
  | x :: l => by
    have h1 := cntK_mono h l
    rw [cntK_hd, cntK_hd]
    cases hx : lessK a x with
    | true => rw [if_pos rfl]; omega
    | false =>
      have : lessK b x = false := leK_trans hx h
      rw [this]
      omega
theorem rnkN_mono {a b : ByteArray} (h : lessK b a = false) : ∀ (L : List (List ByteArray)) (i : Nat), rnkN a i L ≤ rnkN b i L
  | [], _ => Nat.le_refl _
  | l :: L, i => by
    have h1 := rnkN_mono h L (i + 1)
    have h2 := Nat.mul_le_mul_right (2 ^ i) (cntK_mono h l)
    simp only [rnkN]
    omega
theorem flat_take {L : List (List ByteArray)} {k : Nat} (h : k < L.length) : (L.take (k + 1)).flatten = (L.take k).flatten ++ L.getD k [] := by
  rw [take_getD (d := []) h, List.flatten_append]
  simp
theorem flat_len_le {L : List (List ByteArray)} {m : Nat} (h : ∀ l ∈ L, l.length ≤ m) : L.flatten.length ≤ L.length * m := by
  induction L with
  | nil => simp
  | cons l L ih =>
    have h1 := ih (fun x hx => h x (List.mem_cons_of_mem _ hx))
    have h2 := h l (List.mem_cons_self ..)
    simp only [List.flatten_cons, List.length_append, List.length_cons, Nat.add_mul, Nat.one_mul]
    omega
theorem flat_take_len {L : List (List ByteArray)} (k : Nat) : (L.take k).flatten.length ≤ L.flatten.length := by
  have h : L.flatten = (L.take k).flatten ++ (L.drop k).flatten := by rw [← List.flatten_append, List.take_append_drop]
  rw [h, List.length_append]
  omega
theorem insN_flat : ∀ (L : List (List ByteArray)) (i : Nat), L.flatten = [] → insN i L = 0
  | [], _, _ => rfl
  | l :: L, i, h => by
    rw [List.flatten_cons, List.append_eq_nil_iff] at h
    obtain ⟨rfl, h2⟩ := h
    simp [insN, insN_flat L (i + 1) h2]
/-- The smallest key whose rank is at least m. -/
structure IsQ (L : List (List ByteArray)) (m : Int) (q : ByteArray) : Prop where
  mem : q ∈ L.flatten
  hi : m ≤ (rnkN q 0 L : Nat)
  lo : ∀ x ∈ L.flatten, m ≤ (rnkN x 0 L : Nat) → lessK x q = false
theorem IsQ.uniq {L : List (List ByteArray)} {m : Int} {p q : ByteArray} (h : IsQ L m p) (k : IsQ L m q) : p = q := leK_anti (h.lo q k.mem k.hi) (k.lo p h.mem h.hi)
/-- How high the rank must be. -/
def lstR (t : RK) (num den : Int) : Int := max (cdivN (num * t.T) den) 1
def qtE (t : RK) (num den : Int) : Int := if valR t.S t.T t.K t.L = 0 then (if 1 ≤ den ∧ den ≤ 1000000 ∧ 0 ≤ num ∧ num ≤ den then (if t.T = 0 then 17 else 0) else 5) else valR t.S t.T t.K t.L
/-- What a quantile is, or nothing. -/
def QRes (t : RK) (num den : Int) (q : ByteArray) : Prop := if qtE t num den = 0 then IsQ t.L (lstR t num den) q else q = ⟨#[]⟩
theorem QRes.uniq {t : RK} {num den : Int} {p q : ByteArray} (h : QRes t num den p) (k : QRes t num den q) : p = q := by
  unfold QRes at h k
  split at h
  · rename_i h0
    rw [if_pos h0] at k
    exact h.uniq k
  · rename_i h0
    rw [if_neg h0] at k
    rw [h, k]
/-- The greatest key stands for all. -/
theorem top_rank {L : List (List ByteArray)} {q : ByteArray} (h : ∀ x ∈ L.flatten, lessK q x = false) : rnkN q 0 L = insN 0 L := rnkN_all (fun l hl x hx => h x (List.mem_flatten.2 ⟨l, hl, hx⟩))
/-- Where the search ends in the sorted keys. -/
theorem sorted_q {L : List (List ByteArray)} {m : Int} {k : Nat} (hk : k < (sortK L.flatten).length) (h0 : ∀ i, i < k → ¬ m ≤ (rnkN ((sortK L.flatten).getD i ByteArray.empty) 0 L : Nat)) (h1 : m ≤ (rnkN ((sortK L.flatten).getD k ByteArray.empty) 0 L : Nat)) : IsQ L m ((sortK L.flatten).getD k ByteArray.empty) := by
  have hs := sortK_sorted L.flatten
  refine ⟨(sortK_perm L.flatten).mem_iff.1 (getD_mem hk), h1, fun x hx hm => ?_⟩
  obtain ⟨j, hj, rfl⟩ := List.mem_iff_getElem.1 ((sortK_perm L.flatten).mem_iff.2 hx)
  have e : (sortK L.flatten)[j] = (sortK L.flatten).getD j ByteArray.empty := by simp [List.getD, hj]
  rw [e] at hm ⊢
  rcases Nat.lt_or_ge j k with h | h
  · exact absurd hm (h0 j h)
  · exact hs.at_ h hj
theorem sorted_mono {L : List (List ByteArray)} {i j : Nat} (hij : i ≤ j) (hj : j < (sortK L.flatten).length) : rnkN ((sortK L.flatten).getD i ByteArray.empty) 0 L ≤ rnkN ((sortK L.flatten).getD j ByteArray.empty) 0 L := rnkN_mono ((sortK_sorted L.flatten).at_ hij hj) L 0
theorem sorted_top {L : List (List ByteArray)} {n : Nat} (hn : (sortK L.flatten).length = n + 1) : rnkN ((sortK L.flatten).getD n ByteArray.empty) 0 L = insN 0 L := by
  refine top_rank (fun x hx => ?_)
  obtain ⟨j, hj, rfl⟩ := List.mem_iff_getElem.1 ((sortK_perm L.flatten).mem_iff.2 hx)
  have e : (sortK L.flatten)[j] = (sortK L.flatten).getD j ByteArray.empty := by simp [List.getD, hj]
  rw [e]
  exact (sortK_sorted L.flatten).at_ (by omega) (by omega)
/-- The best of the keys so far. -/
def Bst (L : List (List ByteArray)) (m : Int) (P : List ByteArray) (b : ByteArray) : Prop :=
  (b = ⟨#[]⟩ ∧ ∀ x ∈ P, ¬ m ≤ (rnkN x 0 L : Nat)) ∨ (b ∈ P ∧ m ≤ (rnkN b 0 L : Nat) ∧ ∀ x ∈ P, m ≤ (rnkN x 0 L : Nat) → lessK x b = false)
theorem Bst.nil (L : List (List ByteArray)) (m : Int) : Bst L m [] ⟨#[]⟩ := .inl ⟨rfl, by simp⟩
theorem Bst.skip {L : List (List ByteArray)} {m : Int} {P : List ByteArray} {b x : ByteArray} (h : Bst L m P b) (hx : ¬ m ≤ (rnkN x 0 L : Nat)) : Bst L m (P ++ [x]) b := by
  rcases h with ⟨h1, h2⟩ | ⟨h1, h2, h3⟩
  · refine .inl ⟨h1, fun y hy => ?_⟩
    rcases List.mem_append.1 hy with hy | hy
    · exact h2 y hy
    · rw [List.mem_singleton] at hy; subst hy; exact hx
  · refine .inr ⟨List.mem_append_left _ h1, h2, fun y hy hm => ?_⟩
    rcases List.mem_append.1 hy with hy | hy
    · exact h3 y hy hm
    · rw [List.mem_singleton] at hy; subst hy; exact absurd hm hx
theorem Bst.take {L : List (List ByteArray)} {m : Int} {P : List ByteArray} {b x : ByteArray} (h : Bst L m P b) (hx : m ≤ (rnkN x 0 L : Nat)) (hb : b = ⟨#[]⟩ ∧ (∀ y ∈ P, y ≠ ⟨#[]⟩) ∨ lessK x b = true) : Bst L m (P ++ [x]) x := by
  refine .inr ⟨by simp, hx, fun y hy hm => ?_⟩
  rcases List.mem_append.1 hy with hy | hy
  · rcases h with ⟨h1, h2⟩ | ⟨h1, h2, h3⟩
    · exact absurd hm (h2 y hy)
    · rcases hb with ⟨h4, h5⟩ | h4
      · exact absurd h4 (h5 b h1)
      · exact leK_trans (lessK_asym h4) (h3 y hy hm)
  · rw [List.mem_singleton] at hy; subst hy; exact lessK_irr _
theorem Bst.keep {L : List (List ByteArray)} {m : Int} {P : List ByteArray} {b x : ByteArray} (h : Bst L m P b) (hb : b ≠ ⟨#[]⟩) (hl : lessK x b = false) : Bst L m (P ++ [x]) b := by
  rcases h with ⟨h1, h2⟩ | ⟨h1, h2, h3⟩
  · exact absurd h1 hb
  · refine .inr ⟨List.mem_append_left _ h1, h2, fun y hy hm => ?_⟩
    rcases List.mem_append.1 hy with hy | hy
    · exact h3 y hy hm
    · rw [List.mem_singleton] at hy; subst hy; exact hl
theorem Bst.done {L : List (List ByteArray)} {m : Int} {b : ByteArray} (h : Bst L m L.flatten b) (hx : ∃ x ∈ L.flatten, m ≤ (rnkN x 0 L : Nat)) : IsQ L m b := by
  rcases h with ⟨h1, h2⟩ | ⟨h1, h2, h3⟩
  · obtain ⟨x, h3, h4⟩ := hx
    exact absurd h4 (h2 x h3)
  · exact ⟨h1, h2, h3⟩
set_option maxRecDepth 100000 in
set_option maxHeartbeats 1000000 in
theorem growS_any (n : Nat) (w : World) (hn : n ≤ 549755813888) :
    Calls Tryd.prog 75 #[.slice none 0 0, .int .i64 n] w fun e w' => ∃ u, e = .returned u ∧ OwnS w.heap.size [] u w' ∧ Below w.heap.size w w' := by
  by_cases h0 : n = 0
  · subst h0
    go_enter Tryd.func75, Tryd.ntmps75
    go_wp2
    go_ret
    exact ⟨_, rfl, OwnS.empty _ _, Below.refl _ _⟩
  · have h1 : (0 : Int) < (n : Int) := by omega
    have h2 : ¬ (n : Int) < 0 := by omega
    obtain ⟨i0, hi, hz0, hz1, hz2⟩ := info_parts info_str
    have happ := Lib.run_append_nil_zeros (P := Tryd.prog) w 57 3 57 9 i0 (.string ByteArray.empty) .i64 .i64 Tryd.underlying57 Tryd.underlying3 hi hz0 n (by omega) (by omega) (by omega) (by rw [hz2]; omega)
    generalize hcap : grownCap w n 0 9 = cap2 at happ
    have hcapge : n ≤ cap2 := by rw [← hcap]; exact grownCap_ge w _ 0 9
    have hcaple : cap2 ≤ maxLen := by rw [← hcap]; exact grownCap_le_maxLen w _ 0 9 (by unfold maxLen; omega)
    generalize hZ : (Builtin.zeroCells (Value.string ByteArray.empty).cells n ++ Builtin.zeroCells (Value.string ByteArray.empty).cells (cap2 - n)) = Z at happ
    have hZs : Z.size = cap2 * 1 := by rw [← hZ]; simp [size_zeroCells, Value.cells]; omega
    have HOW : Hid (OwnS w.heap.size [] (.slice (some ⟨w.heap.size, 0, none⟩) 0 cap2) (w.drew.alloc (.cells Z 9))) := Lib.hid ⟨rfl, .inr ⟨w.heap.size, cap2, Z, rfl, Nat.le_refl _, heap_alloc_new w.drew _, Nat.zero_le _, hcaple, hZs, by simp [cellsS]⟩⟩
    have HBW : Hid (Below w.heap.size w (w.drew.alloc (.cells Z 9))) := Lib.hid ((Below.refl _ _).drew.alloc (Nat.le_refl _) _)
    clear hcap hZ hi hz0 hz1 hz2 hZs
    go_enter Tryd.func75, Tryd.ntmps75
    go_wp2_with (at_builtin; refine Lib.wpList_append_run _ rfl _ _ _ _ rfl _ _ rfl rfl _ _ happ ?_)
    go_ret
    exact ⟨_, rfl, HOW.out, HBW.out⟩
/-- Strings of the call's own. -/
def LoK (W : World) (A : List ByteArray) (v : Value) (w : World) : Prop := OwnS W.heap.size A v w ∧ Below W.heap.size W w
set_option maxRecDepth 100000 in
set_option maxHeartbeats 1000000 in
theorem concatS_any (L : List (List ByteArray)) (v : Value) (w : World) (hv : RdL L v w) (hn : L.flatten.length ≤ 549755813888) (hl : L.length ≤ 549755813888) :
    Calls Tryd.prog 52 #[v] w fun e w' => ∃ u, e = .returned u ∧ OwnS w.heap.size L.flatten u w' ∧ Below w.heap.size w w' := by
  obtain ⟨a, c, rfl⟩ := hv.shape
  have HV := Lib.hid hv
  have HFL := Lib.hid (fun k => flat_take_len (L := L) k)
  have HFT := Lib.hid (fun k (h : k < L.length) => flat_take h)
  clear hv
  go_enter Tryd.func52, Tryd.ntmps52
  go_wp2
  go_loopw [3, 5, 11] (fun s _ i wr => ∃ k : Nat, k ≤ L.length ∧ i = .int .i64 (k : Int) ∧ s = .int .i64 (((L.take k).flatten.length : Nat) : Int) ∧ w = wr) (fun _ _ i _ => L.length - (intOf i).toNat)
  case atStart => exact ⟨0, Nat.zero_le _, rfl, by simp, rfl⟩
  case round =>
    obtain ⟨k, hk, rfl, rfl, rfl⟩ := hrel
    by_cases hlt : k < L.length
    · have hlt2 : (k : Int) < (L.length : Int) := by omega
      obtain ⟨b, off, u, m, c2, rfl, -, hb, hc, hrr, hm⟩ := HV.out.at_ hlt
      have hf := HFL.out (k + 1)
      have hft := HFT.out k hlt
      have hlen : (L.take (k + 1)).flatten.length = (L.take k).flatten.length + m := by rw [hft, List.length_append, hm]
      rw [hlen] at hf
      have HLN := Lib.hid hlen
      generalize (L.take k).flatten.length = s at *
      have q1 : wrap64 ((s : Int) + (m : Int)) = (s : Int) + (m : Int) := by unfold wrap64; omega
      have q2 : IntKind.i64.wrap ((s : Int) + (m : Int)) = (s : Int) + (m : Int) := by rw [IntKind.wrap_i64]; omega
      have q3 : ¬ (s : Int) + (m : Int) < 0 := by omega
      clear hrr hft hlen hm
      go_wp2
      exact ⟨⟨k + 1, by omega, by go_num, by rw [HLN.out, Int.natCast_add], trivial⟩, by simp [intOf]; omega⟩
    · obtain rfl : k = L.length := by omega
      rw [List.take_length]
      obtain ⟨N, hN⟩ : ∃ N, L.flatten.length = N := ⟨_, rfl⟩
      rw [hN] at hn ⊢
      have hgr := Lib.hid (growS_any N w hn)
      have HN := Lib.hid hN
      clear hN
      go_wp2_with (go_at_call 75; (with_reducible refine hgr.out.mono ?_); rintro e w1 ⟨u1, rfl, ho1, hb1⟩; have H1 : Hid (LoK w ((L.take 0).flatten) u1 w1) := Lib.hid ⟨by simpa using ho1, hb1⟩; clear ho1 hb1)
      clear hgr
      go_loopw [6, 8, 27] (fun o _ i wx => ∃ k : Nat, k ≤ L.length ∧ i = .int .i64 (k : Int) ∧ Hid (LoK w ((L.take k).flatten) o wx)) (fun _ _ i _ => L.length - (intOf i).toNat)
      case atStart => exact ⟨0, by omega, rfl, H1⟩
      case round =>
        clear H1
        obtain ⟨k, hk, rfl, HI⟩ := hrel
        have hzz := HI.out.2.size
        by_cases hlt : k < L.length
        · have hlt2 : (k : Int) < (L.length : Int) := by omega
          obtain ⟨b, off, u, m, c2, rfl, -, hb, hc, hrr, hm⟩ := (HV.out.below HI.out.2).at_ hlt
          have hf := HFL.out (k + 1)
          have hft := HFT.out k hlt
          have hf2 : (L.take k).flatten.length + (L.getD k []).length ≤ 8796093022208 := by rw [hft, List.length_append, HN.out] at hf; omega
          have HTT := Lib.hid hft
          have HFF := Lib.hid hf2
          subst hm
          generalize L.getD k [] = l at *
          have HS0 := Lib.hid hrr.src
          clear hrr hft hf hf2
          go_wp2_with (at_builtin; refine wp_appS rfl _ _ _ rfl w.heap.size ((L.take k).flatten) l _ _ rfl rfl HI.out.1 HS0.out hzz HFF.out ?_; intro v2 w2 ho2 hb2; have H2 : Hid (LoK w ((L.take (k + 1)).flatten) v2 w2) := Lib.hid ⟨by rw [HTT.out]; exact ho2, HI.out.2.trans hb2⟩; clear ho2 hb2)
          exact ⟨⟨k + 1, by omega, by go_num, H2⟩, by simp [intOf]; omega⟩
        · obtain rfl : k = L.length := by omega
          have HI2 := Lib.hid HI.out
          rw [List.take_length] at HI2
          go_wp2
          go_ret
          exact ⟨_, rfl, HI2.out.1, HI2.out.2⟩
/-- A closure of three captured variables that answers p below n; old blocks stay. -/
def TellsB (f : FuncId) (c1 c2 c3 : Value) (p : Nat → Bool) (n : Nat) (w : World) : Prop :=
  (∀ args w, (callFunc f args).run Tryd.prog w = .ok (.enter f args) w) ∧ ∀ (w1 : World) i, Below w.heap.size w w1 → i < n → Calls Tryd.prog f #[.int .i64 (i : Int), c1, c2, c3] w1 fun e w' => e = .returned (.bool (p i)) ∧ Below w1.heap.size w1 w'
set_option maxRecDepth 100000 in
set_option maxHeartbeats 2000000 in
theorem search3_any (f : FuncId) (c1 c2 c3 : Value) (p : Nat → Bool) (n : Nat) (w : World) (ht : TellsB f c1 c2 c3 p n w) (hp : ∀ i j, i ≤ j → j < n → p i = true → p j = true) (hn : n ≤ 549755813888) :
    Calls Tryd.prog 54 #[.int .i64 (n : Int), .func (.func f) #[] #[c1, c2, c3]] w fun e w' =>
      ∃ k, k ≤ n ∧ (∀ i, i < k → p i = false) ∧ (k < n → p k = true) ∧ e = .returned (.int .i64 (k : Int)) ∧ Below w.heap.size w w' := by
  obtain ⟨he, hf⟩ := ht
  have HF := Lib.hid hf
  have HP := Lib.hid hp
  clear hf hp
  go_enter Tryd.func54, Tryd.ntmps54
  go_wp2
  go_loopw [5, 6] (fun vi vj wr => ∃ i j : Nat, i ≤ j ∧ j ≤ n ∧ vi = .int .i64 (i : Int) ∧ vj = .int .i64 (j : Int) ∧ Hid (Below w.heap.size w wr) ∧ Hid ((∀ x, x < i → p x = false) ∧ (j < n → p j = true))) (fun vi vj _ => (intOf vj).toNat - (intOf vi).toNat)
  case atStart => exact ⟨0, n, Nat.zero_le _, Nat.le_refl _, rfl, rfl, Lib.hid (Below.refl _ _), Lib.hid ⟨fun x hx => absurd hx (Nat.not_lt_zero _), fun h => absurd h (Nat.lt_irrefl _)⟩⟩
  case round =>
    obtain ⟨i, j, hij, hjn, rfl, rfl, HB, HI⟩ := hrel
    by_cases hlt : i < j
    · have hlt2 : (i : Int) < (j : Int) := by omega
      obtain ⟨h, hh⟩ : ∃ h, h = (i + j) / 2 := ⟨_, rfl⟩
      have hih : i ≤ h := by omega
      have hhj : h < j := by omega
      have hd : ((i : Int) + (j : Int)) / 2 = (h : Int) := by omega
      have hw1 : IntKind.u64.wrap ((i : Int) + (j : Int)) = (i : Int) + (j : Int) := by rw [IntKind.wrap_u64]; omega
      have hw2 : wrap64 ((i : Int) + (j : Int)) = (i : Int) + (j : Int) := by unfold wrap64; omega
      have hw4 : IntKind.i64.wrap (h : Int) = (h : Int) := by rw [IntKind.wrap_i64]; omega
      have hw5 : wrap64 (h : Int) = (h : Int) := by unfold wrap64; omega
      have hw6 : IntKind.u64.wrap (h : Int) = (h : Int) := by rw [IntKind.wrap_u64]; omega
      clear hh
      have HC := Lib.hid (fun (w1 : World) (hb : Below w.heap.size w w1) => HF.out w1 h hb (by omega))
      cases hph : p h
      · rw [hph] at HC
        have hnx : ∀ x, x < h + 1 → p x = false := fun x hx => by
          cases hx2 : p x with
          | false => rfl
          | true =>
            have h3 := HP.out x h (by omega) (by omega) hx2
            rw [hph] at h3
            cases h3
        have HNX : Hid ((∀ x, x < h + 1 → p x = false) ∧ (j < n → p j = true)) := Lib.hid ⟨hnx, HI.out.2⟩
        clear hnx hph
        go_wp2_with ((with_reducible refine (HC.out _ (by first | exact HB.out | exact HB.out.drew | exact below_drewN HB.out _)).mono ?_); rintro e w' ⟨rfl, hb'⟩; have HB2 : Hid (Below w.heap.size w w') := Lib.hid (by first | exact bgo HB.out hb' | exact bgo HB.out.drew hb' | exact bgo (below_drewN HB.out _) hb'); clear hb')
        exact ⟨⟨h + 1, j, by omega, hjn, by go_num, rfl, HB2, HNX⟩, by simp [intOf]; omega⟩
      · rw [hph] at HC
        have HNX : Hid ((∀ x, x < i → p x = false) ∧ (h < n → p h = true)) := Lib.hid ⟨HI.out.1, fun _ => hph⟩
        clear hph
        go_wp2_with ((with_reducible refine (HC.out _ (by first | exact HB.out | exact HB.out.drew | exact below_drewN HB.out _)).mono ?_); rintro e w' ⟨rfl, hb'⟩; have HB2 : Hid (Below w.heap.size w w') := Lib.hid (by first | exact bgo HB.out hb' | exact bgo HB.out.drew hb' | exact bgo (below_drewN HB.out _) hb'); clear hb')
        exact ⟨⟨i, h, hih, by omega, rfl, by go_num, HB2, HNX⟩, by simp [intOf]; omega⟩
    · obtain rfl : i = j := by omega
      go_wp2
      go_ret
      exact ⟨_, hjn, HI.out.1, HI.out.2, rfl, HB.out⟩
set_option maxRecDepth 100000 in
set_option maxHeartbeats 1000000 in
theorem qcl_any (L : List (List ByteArray)) (Y : List ByteArray) (m : Int) (gr gk gl : Nat) (v vk : Value) (w : World) (h1 : w.cell? ⟨gr, 3, none⟩ = some v) (hv : RdL L v w) (h2 : w.cell? ⟨gk, 0, none⟩ = some vk) (hk : RdS Y vk w) (h3 : w.cell? ⟨gl, 0, none⟩ = some (.int .i64 m))
    (hok : LOk L) (hg : ∀ l ∈ L, Asc l ∧ l.length ≤ 31) (hn : L.length ≤ 41) (hs : insN 0 L ≤ 1099511627776) (hy : SOk Y) (i : Nat) (hi : i < Y.length) (hY : Y.length ≤ 549755813888) :
    Calls Tryd.prog 55 #[.int .i64 (i : Int), .pointer (some ⟨gr, 0, none⟩), .pointer (some ⟨gk, 0, none⟩), .pointer (some ⟨gl, 0, none⟩)] w fun e w' => e = .returned (.bool (decide (m ≤ (rnkN (Y.getD i ByteArray.empty) 0 L : Nat)))) ∧ Below w.heap.size w w' := by
  obtain ⟨a, c, rfl⟩ := hv.shape
  obtain ⟨ak, ck, rfl⟩ := hk.shape
  obtain ⟨b, o, rfl, hbb, hc⟩ := hk.cell hi
  have hsx := hy.at_ i
  have HV := Lib.hid hv
  generalize Y.getD i ByteArray.empty = x at *
  have hi2 : (i : Int) < (Y.length : Int) := by omega
  have HS0 := Lib.hid (fun (w' : World) (hb : Below w.heap.size w w') => (show w'.cell? ⟨gr, 3, none⟩ = some (.slice a L.length c) ∧ w'.cell? ⟨gk, 0, none⟩ = some (.slice (some ⟨b, o, none⟩) Y.length ck) ∧ w'.cell? ⟨b, o + i, none⟩ = some (.string x) ∧ w'.cell? ⟨gl, 0, none⟩ = some (.int .i64 m) from
    ⟨(hb.cell (p := ⟨gr, 3, none⟩) (World.block_lt_of_cell? w _ h1)).trans h1, (hb.cell (p := ⟨gk, 0, none⟩) (World.block_lt_of_cell? w _ h2)).trans h2, (hb.cell (p := ⟨b, o + i, none⟩) hbb).trans hc, (hb.cell (p := ⟨gl, 0, none⟩) (World.block_lt_of_cell? w _ h3)).trans h3⟩))
  have HRK := Lib.hid (fun (w' : World) (hb : Below w.heap.size w w' ∧ w'.cell? ⟨gr, 3, none⟩ = some (.slice a L.length c) ∧ w'.cell? ⟨gk, 0, none⟩ = some (.slice (some ⟨b, o, none⟩) Y.length ck) ∧ w'.cell? ⟨b, o + i, none⟩ = some (.string x) ∧ w'.cell? ⟨gl, 0, none⟩ = some (.int .i64 m)) => rank_any L _ x w' (HV.out.below hb.1) hok hg hn hs hsx)
  have SB : Hid (∀ w' w'' : World, (Below w.heap.size w w' ∧ w'.cell? ⟨gr, 3, none⟩ = some (.slice a L.length c) ∧ w'.cell? ⟨gk, 0, none⟩ = some (.slice (some ⟨b, o, none⟩) Y.length ck) ∧ w'.cell? ⟨b, o + i, none⟩ = some (.string x) ∧ w'.cell? ⟨gl, 0, none⟩ = some (.int .i64 m)) → Below w'.heap.size w' w'' → (Below w.heap.size w w'' ∧ w''.cell? ⟨gr, 3, none⟩ = some (.slice a L.length c) ∧ w''.cell? ⟨gk, 0, none⟩ = some (.slice (some ⟨b, o, none⟩) Y.length ck) ∧ w''.cell? ⟨b, o + i, none⟩ = some (.string x) ∧ w''.cell? ⟨gl, 0, none⟩ = some (.int .i64 m))) := Lib.hid (fun w' w'' h hb => ⟨bgo h.1 hb, HS0.out _ (bgo h.1 hb)⟩)
  clear hv hk hok hg hs hy hbb HS0
  generalize rnkN x 0 L = rk at *
  go_enter Tryd.func55, Tryd.ntmps55
  go_wp2
  go_region_held3 (fun w' => Below w.heap.size w w' ∧ w'.cell? ⟨gr, 3, none⟩ = some (.slice a L.length c) ∧ w'.cell? ⟨gk, 0, none⟩ = some (.slice (some ⟨b, o, none⟩) Y.length ck) ∧ w'.cell? ⟨b, o + i, none⟩ = some (.string x) ∧ w'.cell? ⟨gl, 0, none⟩ = some (.int .i64 m)) (first | assumption | exact ⟨(Below.refl _ _).drew, h1, h2, hc, h3⟩) (first
    | (go_at_call 49; ((with_reducible refine (HRK.out _ (by assumption)).mono ?_); rintro e w' ⟨rfl, hbl⟩; have S1 := SB.out _ w' (by assumption) hbl; clear hbl)))
  go_wp2
  go_ret
  rename_i hS
  exact ⟨rfl, hS.1⟩
theorem enters_qcl : ∀ args w, (callFunc 55 args).run Tryd.prog w = .ok (.enter 55 args) w := Go.Proofs.enters_of Tryd.func55 (by kernel_rfl) rfl
theorem cdivN_bd {a b : Int} (a0 : 0 ≤ a) (b0 : 1 ≤ b) : 0 ≤ cdivN a b ∧ cdivN a b ≤ a := by
  have h1 := Int.ediv_nonneg a0 (show 0 ≤ b by omega)
  have h2 := Int.mul_ediv_add_emod a b
  have h3 := Int.emod_nonneg a (show b ≠ 0 by omega)
  have h4 : a / b ≤ b * (a / b) := by
    have := Int.mul_le_mul_of_nonneg_right b0 h1
    omega
  unfold cdivN
  split <;> omega
/-- A quantile's rank is not above the total. -/
theorem lst_le {num den T : Int} (n0 : 0 ≤ num) (n1 : num ≤ den) (d0 : 1 ≤ den) (t0 : 1 ≤ T) : max (cdivN (num * T) den) 1 ≤ T := by
  have h : cdivN (num * T) den ≤ T := by
    have h5 : num * T ≤ den * T := Int.mul_le_mul_of_nonneg_right n1 (by omega)
    have h2 := Int.mul_ediv_add_emod (num * T) den
    have h3 := Int.emod_nonneg (num * T) (show den ≠ 0 by omega)
    have h6 : num * T / den ≤ T := by
      have := Int.ediv_le_ediv (show 0 < den by omega) h5
      rwa [Int.mul_comm den T, Int.mul_ediv_cancel _ (by omega)] at this
    unfold cdivN
    split
    · rename_i hp
      have h7 : num * T / den ≠ T := fun e => by
        rw [e] at h2
        omega
      omega
    · exact h6
  omega
set_option maxRecDepth 100000 in
set_option maxHeartbeats 4000000 in
theorem pqt_any (t : RK) (num den : Int) (v : Value) (w : World) (hv : RdR t v w) (hok : LOk t.L) :
    Calls Tryd.prog 27 #[v, .int .i64 num, .int .i64 den] w fun e w' => ∃ q, e = .returned (.tuple #[.string q, .int .i64 (qtE t num den)]) ∧ QRes t num den q ∧ Below w.heap.size w w' := by
  obtain ⟨S, T, K, L, s⟩ := t
  obtain ⟨a, c, rfl, hr⟩ := hv.run
  clear hv
  dsimp only at hr hok ⊢
  have HR := Lib.hid hr
  have C0 := Lib.hid (RsS.new S T K (.slice a L.length c) s 28 w)
  have HV := Lib.hid (fun (w' : World) (hb : Below w.heap.size w w') => pvalR_any S T K L s a L.length c w' (hr.below hb) hok)
  clear hr
  by_cases hE : valR S T K L = 0
  · rw [hE] at HV
    have hval := valR_ok hE
    by_cases hD : 1 ≤ den ∧ den ≤ 1000000 ∧ 0 ≤ num ∧ num ≤ den
    · obtain ⟨d0, d1, n0, n1⟩ := hD
      by_cases hT : T = 0
      · have hqe : qtE ⟨S, T, K, L, s⟩ num den = 17 := by unfold qtE; dsimp only; rw [if_pos hE, if_pos ⟨d0, d1, n0, n1⟩, if_pos hT]
        have HQR : Hid (QRes ⟨S, T, K, L, s⟩ num den ⟨#[]⟩) := Lib.hid (by unfold QRes; rw [hqe, if_neg (by decide)])
        rw [hqe]
        generalize QRes ⟨S, T, K, L, s⟩ num den = QR at *
        subst hT
        clear hE hval hqe
        go_enter Tryd.func27, Tryd.ntmps27
        go_wp2_with (go_at_call 20; (with_reducible refine (HV.out _ (b1 _)).mono ?_); rintro e w2 ⟨rfl, hb2⟩; have B2 := Lib.hid (bgo (b1 _) hb2); have C2 := Lib.hid (C0.out.go hb2); obtain ⟨⟨p0, p1, p2, p3, p4⟩, -⟩ := C2.out; clear hb2)
        go_ret2
        exact ⟨_, rfl, HQR.out, B2.out⟩
      · have hqe : qtE ⟨S, T, K, L, s⟩ num den = 0 := by unfold qtE; dsimp only; rw [if_pos hE, if_pos ⟨d0, d1, n0, n1⟩, if_neg hT]
        have HQR : Hid (∀ q, IsQ L (max (cdivN (num * T) den) 1) q → QRes ⟨S, T, K, L, s⟩ num den q) := Lib.hid (fun q h => by unfold QRes; rw [hqe, if_pos rfl]; exact h)
        rw [hqe]
        generalize QRes ⟨S, T, K, L, s⟩ num den = QR at *
        clear hqe
        have t0 := hval.t0
        have t1 := hval.t1
        have hPT0 : 0 ≤ num * T := Int.mul_nonneg n0 t0
        have hPT1 : num * T ≤ 1099511627776000000 := by
          have h1 : num * T ≤ 1000000 * T := Int.mul_le_mul_of_nonneg_right (by omega) t0
          omega
        have hlst := lst_le n0 n1 d0 (show 1 ≤ T by omega)
        have hcd := cdivN_bd (a := num * T) hPT0 d0
        have HCD := Lib.hid (fun w1 => ceil_ok (num * T) den w1 hPT0 (by omega) d0 (by omega))
        have qm1 : IntKind.i64.wrap (num * T) = num * T := by rw [IntKind.wrap_i64]; omega
        have qm2 : wrap64 (num * T) = num * T := by unfold wrap64; omega
        obtain ⟨PT, hPT⟩ : ∃ PT, num * T = PT := ⟨_, rfl⟩
        rw [hPT] at hPT0 hPT1 hlst hcd HCD qm1 qm2 HQR
        generalize cdivN PT den = Q at *
        have hfl := flat_len_le hval.rows
        have hnl := hval.nl
        have hfl2 : L.flatten.length ≤ 1271 := by
          have : L.length * 31 ≤ 41 * 31 := Nat.mul_le_mul_right 31 hnl
          omega
        have HCC := Lib.hid (fun (w1 : World) (hb : Below w.heap.size w w1) => concatS_any L (.slice a L.length c) w1 (HR.out.below hb) (by omega) (by omega))
        have HST := Lib.hid (fun (B : Nat) (vk : Value) (w1 : World) (h : OwnS B L.flatten vk w1) => sortS_any L.flatten B vk w1 h (by omega))
        have hpos : 0 < (sortK L.flatten).length := by
          rw [sortK_len]
          apply Nat.pos_of_ne_zero
          intro h0
          have := insN_flat L 0 (List.eq_nil_of_length_eq_zero h0)
          have h1 := hval.sum
          omega
        obtain ⟨M, hM⟩ : ∃ M, M = max Q 1 := ⟨_, rfl⟩
        rw [← hM] at hlst HQR
        have hM1 : max Q 1 = M := hM.symm
        have hYs : SOk (sortK L.flatten) := fun x hx => by
          have hx := (sortK_perm L.flatten).mem_iff.1 hx
          obtain ⟨l, hl, hx⟩ := List.mem_flatten.1 hx
          exact hok.2 l hl |>.2 x hx
        have HTL : Hid (∀ (gr gk gl : Nat) (vk : Value) (w1 : World), w1.cell? ⟨gr, 3, none⟩ = some (.slice a L.length c) → RdL L (.slice a L.length c) w1 → w1.cell? ⟨gk, 0, none⟩ = some vk → RdS (sortK L.flatten) vk w1 → w1.cell? ⟨gl, 0, none⟩ = some (.int .i64 M) →
            TellsB 55 (.pointer (some ⟨gr, 0, none⟩)) (.pointer (some ⟨gk, 0, none⟩)) (.pointer (some ⟨gl, 0, none⟩)) (fun i => decide (M ≤ (rnkN ((sortK L.flatten).getD i ByteArray.empty) 0 L : Nat))) (sortK L.flatten).length w1) := Lib.hid (fun gr gk gl vk w1 h1 h2 h3 h4 h5 => ⟨enters_qcl, fun w2 i hb hi =>
          qcl_any L (sortK L.flatten) M gr gk gl (.slice a L.length c) vk w2 ((hb.cell (p := ⟨gr, 3, none⟩) (World.block_lt_of_cell? w1 _ h1)).trans h1) (h2.below hb) ((hb.cell (p := ⟨gk, 0, none⟩) (World.block_lt_of_cell? w1 _ h3)).trans h3) (h4.below hb) ((hb.cell (p := ⟨gl, 0, none⟩) (World.block_lt_of_cell? w1 _ h5)).trans h5)
            hok (fun l hl => ⟨(hval.lv l hl).2.2, hval.rows l hl⟩) hnl (by have := hval.sum; omega) hYs i hi (by rw [sortK_len]; omega)⟩)
        have HSR := Lib.hid (fun (c1 c2 c3 : Value) (w1 : World) (ht : TellsB 55 c1 c2 c3 (fun i => decide (M ≤ (rnkN ((sortK L.flatten).getD i ByteArray.empty) 0 L : Nat))) (sortK L.flatten).length w1) => search3_any 55 c1 c2 c3 _ _ w1 ht (fun i j hij hj hp => by
          have h1 := of_decide_eq_true hp
          have h2 := sorted_mono (L := L) hij hj
          exact decide_eq_true (by omega)) (by rw [sortK_len]; omega))
        have HQ := Lib.hid (fun (k : Nat) (hk : k ≤ (sortK L.flatten).length) (h0 : ∀ i, i < k → (decide (M ≤ (rnkN ((sortK L.flatten).getD i ByteArray.empty) 0 L : Nat))) = false) (h1 : k < (sortK L.flatten).length → (decide (M ≤ (rnkN ((sortK L.flatten).getD k ByteArray.empty) 0 L : Nat))) = true) => (show k < (sortK L.flatten).length ∧ IsQ L M ((sortK L.flatten).getD k ByteArray.empty) from by
          have hlt : k < (sortK L.flatten).length := by
            apply Nat.lt_of_not_le
            intro hge
            obtain ⟨n, hn⟩ : ∃ n, (sortK L.flatten).length = n + 1 := ⟨(sortK L.flatten).length - 1, by omega⟩
            have h2 := h0 n (by omega)
            rw [sorted_top hn] at h2
            have h3 := of_decide_eq_false h2
            have h4 := hval.sum
            omega
          exact ⟨hlt, sorted_q hlt (fun i hi => of_decide_eq_false (h0 i hi)) (of_decide_eq_true (h1 hlt))⟩))
        have HYL := Lib.hid (show (sortK L.flatten).length ≤ 1271 by rw [sortK_len]; exact hfl2)
        clear hE hval hfl hfl2 hYs hok hnl
        generalize hYY : sortK L.flatten = Y at *
        clear hYY
        clear hM
        go_enter Tryd.func27, Tryd.ntmps27
        go_wp2_with (first
          | (go_at_call 20; (with_reducible refine (HV.out _ (b1 _)).mono ?_); rintro e w2 ⟨rfl, hb2⟩; have B2 := Lib.hid (bgo (b1 _) hb2); have C2 := Lib.hid (C0.out.go hb2); obtain ⟨⟨p0, p1, p2, p3, p4⟩, -⟩ := C2.out; (have z2 : w.heap.size < w2.heap.size := C2.out.lt); (have z3 : ¬ w.heap.size = w2.heap.size := Nat.ne_of_lt z2); (have z4 : ¬ w2.heap.size = w.heap.size := Nat.ne_of_gt z2); clear hb2)
          | (go_at_call 51; (with_reducible refine (HCD.out _).mono ?_); rintro e w' ⟨rfl, rfl⟩)
          | (go_at_call 52; (refine (HCC.out _ (bal B2.out _)).mono ?_); rintro e w4 ⟨vk, rfl, ho4, hb4⟩; obtain ⟨a4, n4, c4, hv4⟩ : ∃ a n c, vk = .slice a n c := ho4.rd.shape.elim fun a h => h.elim fun c h => ⟨a, _, c, h⟩; subst hv4; have B4 := Lib.hid (bgo (bal B2.out _) hb4); have C4 := Lib.hid ((C2.out.go (b1 _)).go hb4); (have g4 : w4.cell? ⟨w2.heap.size, 0, none⟩ = some (.int .i64 M) := (hb4.cell (p := ⟨w2.heap.size, 0, none⟩) (by simp)).trans (by go_simp)); have G4 := Lib.hid g4; (have o4 : OwnS (w2.heap.size + 1) L.flatten (.slice a4 n4 c4) w4 := ho4.mono (Nat.le_of_eq (by simp))); have O4 := Lib.hid o4; (have z5 : w2.heap.size < w4.heap.size := by have := hb4.size; simp at this; omega); clear ho4 hb4 g4 o4 p0 p1 p2 p3 p4)
          | (go_at_call 53; (refine (HST.out (w2.heap.size + 1) _ _ (O4.out.alloc _)).mono ?_); rintro e w5 ⟨rfl, ho5, hl5, hb5⟩; have C5 := Lib.hid ((C4.out.go (b1 _)).below hb5 (by omega)); (have g5 : w5.cell? ⟨w2.heap.size, 0, none⟩ = some (.int .i64 M) := (hb5.cell (p := ⟨w2.heap.size, 0, none⟩) (Nat.lt_succ_self _)).trans (((bcell (b1 _)).1 w2.heap.size 0 z5).trans G4.out)); have G5 := Lib.hid g5; (have k5 : w5.cell? ⟨w4.heap.size, 0, none⟩ = some (.slice a4 n4 c4) := (World.cell?_of_block (a := ⟨w4.heap.size, 0, none⟩) (hl5.2 w4.heap.size (by simp) (fun he => by have := (O4.out.lt he).2; omega))).trans (by go_simp)); have B5 := Lib.hid ((bal B4.out _).trans (hb5.mono (by omega))); have R5 := Lib.hid ho5.rd; obtain ⟨a5, c5, hv5⟩ := ho5.rd.shape; simp only [Value.slice.injEq] at hv5; obtain ⟨rfl, rfl, rfl⟩ := hv5; have K5 := Lib.hid k5; clear ho5 hl5 hb5 g5)
          | (go_at_call 54; (refine (HSR.out _ _ _ _ (HTL.out w.heap.size w4.heap.size w2.heap.size _ _ C5.out.1.2.2.2.1 (HR.out.below B5.out) K5.out R5.out G5.out)).mono ?_); rintro e w6 ⟨k, hk, hk0, hk1, rfl, hb6⟩; obtain ⟨hlt, hq⟩ := HQ.out k hk hk0 hk1; (have hc7 := fun h => (R5.out.below hb6).cell (k := k) h); obtain ⟨qq, hqq⟩ : ∃ qq, Y.getD k ByteArray.empty = qq := ⟨_, rfl⟩; rw [hqq] at hq hc7; have HQ6 := Lib.hid hq; (have k6 := (hb6.cell (p := ⟨w4.heap.size, 0, none⟩) (World.block_lt_of_cell? w5 _ K5.out)).trans K5.out); obtain ⟨b6, o6, rfl, hb7, hc6⟩ := hc7 hlt; clear hqq hc7; (have hltI : (k : Int) < (Y.length : Int) := by omega); have B6 := Lib.hid (bgo B5.out hb6); clear hq hb6 k5))
        go_ret2
        exact ⟨_, rfl, HQR.out _ HQ6.out, B6.out⟩
    · have hqe : qtE ⟨S, T, K, L, s⟩ num den = 5 := by unfold qtE; dsimp only; rw [if_pos hE, if_neg hD]
      have HQR : Hid (QRes ⟨S, T, K, L, s⟩ num den ⟨#[]⟩) := Lib.hid (by unfold QRes; rw [hqe, if_neg (by decide)])
      rw [hqe]
      generalize QRes ⟨S, T, K, L, s⟩ num den = QR at *
      have hD2 : den < 1 ∨ (¬ den < 1 ∧ 1000000 < den) ∨ (¬ den < 1 ∧ ¬ 1000000 < den ∧ num < 0) ∨ (¬ den < 1 ∧ ¬ 1000000 < den ∧ ¬ num < 0 ∧ den < num) := by omega
      clear hE hval hqe hD
      rcases hD2 with hD2 | ⟨hD1, hD2⟩ | ⟨hD0, hD1, hD2⟩ | ⟨hD00, hD0, hD1, hD2⟩
      all_goals
        go_enter Tryd.func27, Tryd.ntmps27
        go_wp2_with (go_at_call 20; (with_reducible refine (HV.out _ (b1 _)).mono ?_); rintro e w2 ⟨rfl, hb2⟩; have B2 := Lib.hid (bgo (b1 _) hb2); have C2 := Lib.hid (C0.out.go hb2); obtain ⟨⟨p0, p1, p2, p3, p4⟩, -⟩ := C2.out; clear hb2)
        go_ret2
        exact ⟨_, rfl, HQR.out, B2.out⟩
  · have hqe : qtE ⟨S, T, K, L, s⟩ num den = valR S T K L := by unfold qtE; dsimp only; rw [if_neg hE]
    have HQR : Hid (QRes ⟨S, T, K, L, s⟩ num den ⟨#[]⟩) := Lib.hid (by unfold QRes; rw [hqe, if_neg hE])
    have hE2 : (valR S T K L != 0) = true := by simpa using hE
    rw [hqe]
    generalize QRes ⟨S, T, K, L, s⟩ num den = QR at *
    clear hE hqe
    go_enter Tryd.func27, Tryd.ntmps27
    go_wp2_with (go_at_call 20; (with_reducible refine (HV.out _ (b1 _)).mono ?_); rintro e w2 ⟨rfl, hb2⟩; have B2 := Lib.hid (bgo (b1 _) hb2); clear hb2)
    go_ret2
    exact ⟨_, rfl, HQR.out, B2.out⟩
theorem exists_top {L : List (List ByteArray)} {m : Int} (h : 0 < (sortK L.flatten).length) (hm : m ≤ (insN 0 L : Nat)) : ∃ x ∈ L.flatten, m ≤ (rnkN x 0 L : Nat) := by
  obtain ⟨n, hn⟩ : ∃ n, (sortK L.flatten).length = n + 1 := ⟨(sortK L.flatten).length - 1, by omega⟩
  refine ⟨(sortK L.flatten).getD n ByteArray.empty, (sortK_perm L.flatten).mem_iff.1 (getD_mem (by omega)), ?_⟩
  rw [sorted_top hn]
  exact hm
theorem ne_zero {x : ByteArray} (h : keyB (byt x) = true) : x ≠ ⟨#[]⟩ := by
  rintro rfl
  revert h
  decide +kernel
theorem size_pos {x : ByteArray} (h : x ≠ ⟨#[]⟩) : 0 < x.size := by
  apply Nat.pos_of_ne_zero
  intro h0
  apply h
  cases x with
  | mk d =>
    have : d.size = 0 := h0
    rw [Array.eq_empty_of_size_eq_zero this]
set_option maxRecDepth 100000 in
set_option maxHeartbeats 4000000 in
theorem rqt_any (t : RK) (num den : Int) (v : Value) (w : World) (hv : RdR t v w) (hok : LOk t.L) :
    Calls Tryd.prog 28 #[v, .int .i64 num, .int .i64 den] w fun e w' => ∃ q, e = .returned (.tuple #[.string q, .int .i64 (qtE t num den)]) ∧ QRes t num den q ∧ Below w.heap.size w w' := by
  obtain ⟨S, T, K, L, s⟩ := t
  obtain ⟨a, c, rfl, hr⟩ := hv.run
  clear hv
  dsimp only at hr hok ⊢
  have HR := Lib.hid hr
  have C0 := Lib.hid (RsS.new S T K (.slice a L.length c) s 28 w)
  have HV := Lib.hid (fun (w' : World) (hb : Below w.heap.size w w') => rvalR_any S T K L s a L.length c w' (hr.below hb) hok)
  have hz1 := fun w => rwithin_any den 1 1000000 w
  have hz2 := fun w => rwithin_any num 0 den w
  clear hr
  by_cases hE : valR S T K L = 0
  · rw [hE] at HV
    have hval := valR_ok hE
    by_cases hD : 1 ≤ den ∧ den ≤ 1000000 ∧ 0 ≤ num ∧ num ≤ den
    · obtain ⟨d0, d1, n0, n1⟩ := hD
      rw [show inW den 1 1000000 = true by unfold inW; simp; omega] at hz1
      rw [show inW num 0 den = true by unfold inW; simp; omega] at hz2
      by_cases hT : T = 0
      · have hqe : qtE ⟨S, T, K, L, s⟩ num den = 17 := by unfold qtE; dsimp only; rw [if_pos hE, if_pos ⟨d0, d1, n0, n1⟩, if_pos hT]
        have HQR : Hid (QRes ⟨S, T, K, L, s⟩ num den ⟨#[]⟩) := Lib.hid (by unfold QRes; rw [hqe, if_neg (by decide)])
        rw [hqe]
        generalize QRes ⟨S, T, K, L, s⟩ num den = QR at *
        subst hT
        clear hE hval hqe
        go_enter Tryd.func28, Tryd.ntmps28
        go_wp2_with (first
          | (go_at_call 21; (with_reducible refine (HV.out _ (b1 _)).mono ?_); rintro e w2 ⟨rfl, hb2⟩; have B2 := Lib.hid (bgo (b1 _) hb2); have C2 := Lib.hid (C0.out.go hb2); obtain ⟨⟨p0, p1, p2, p3, p4⟩, -⟩ := C2.out; clear hb2)
          | (go_at_call 43; (with_reducible refine (hz1 _).mono ?_); rintro e w' ⟨rfl, rfl⟩)
          | (go_at_call 43; (with_reducible refine (hz2 _).mono ?_); rintro e w' ⟨rfl, rfl⟩))
        go_ret2
        exact ⟨_, rfl, HQR.out, B2.out⟩
      · have hqe : qtE ⟨S, T, K, L, s⟩ num den = 0 := by unfold qtE; dsimp only; rw [if_pos hE, if_pos ⟨d0, d1, n0, n1⟩, if_neg hT]
        have HQR : Hid (∀ q, IsQ L (max (cdivN (num * T) den) 1) q → QRes ⟨S, T, K, L, s⟩ num den q) := Lib.hid (fun q h => by unfold QRes; rw [hqe, if_pos rfl]; exact h)
        rw [hqe]
        generalize QRes ⟨S, T, K, L, s⟩ num den = QR at *
        clear hqe
        have t0 := hval.t0
        have t1 := hval.t1
        have hPT0 : 0 ≤ num * T := Int.mul_nonneg n0 t0
        have hPT1 : num * T ≤ 1099511627776000000 := by
          have h1 : num * T ≤ 1000000 * T := Int.mul_le_mul_of_nonneg_right (by omega) t0
          omega
        have hlst := lst_le n0 n1 d0 (show 1 ≤ T by omega)
        have hcd := cdivN_bd (a := num * T) hPT0 d0
        have HCD := Lib.hid (fun w1 => ref_ceil_ok (num * T) den w1 hPT0 (by omega) d0 (by omega))
        have qm1 : IntKind.i64.wrap (num * T) = num * T := by rw [IntKind.wrap_i64]; omega
        have qm2 : wrap64 (num * T) = num * T := by unfold wrap64; omega
        obtain ⟨PT, hPT⟩ : ∃ PT, num * T = PT := ⟨_, rfl⟩
        rw [hPT] at hPT0 hPT1 hlst hcd HCD qm1 qm2 HQR
        generalize cdivN PT den = Q at *
        have hnl := hval.nl
        have hpos : 0 < (sortK L.flatten).length := by
          rw [sortK_len]
          apply Nat.pos_of_ne_zero
          intro h0
          have := insN_flat L 0 (List.eq_nil_of_length_eq_zero h0)
          have h1 := hval.sum
          omega
        obtain ⟨M, hM⟩ : ∃ M, M = max Q 1 := ⟨_, rfl⟩
        rw [← hM] at hlst HQR
        have hM1 : max Q 1 = M := hM.symm
        have HEX := Lib.hid (exists_top (L := L) (m := M) hpos (by have := hval.sum; omega))
        have HKB := Lib.hid (fun (l : List ByteArray) (hl : l ∈ L) (x : ByteArray) (hx : x ∈ l) => (hval.lv l hl).2.1 x hx)
        have HRW := Lib.hid hval.rows
        have HRK := Lib.hid (fun (x : ByteArray) (hx : x.size ≤ maxLen) (w1 : World) (hb : Below w.heap.size w w1) => rrank_any ⟨S, T, K, L, s⟩ (.agg #[.int .i64 S, .int .i64 T, .int .i64 K, .slice a L.length c, .bool s]) x w1 ⟨_, _, _, rfl, HR.out.below hb⟩ hok hval.rows hnl (by have := hval.sum; dsimp only; omega) hx)
        have HFT := Lib.hid (fun k (h : k < L.length) => flat_take h)
        dsimp only at HRK
        clear hE hval hM hpos hok
        go_enter Tryd.func28, Tryd.ntmps28
        go_wp2_with (first
          | (go_at_call 21; (with_reducible refine (HV.out _ (b1 _)).mono ?_); rintro e w2 ⟨rfl, hb2⟩; have B2 := Lib.hid (bgo (b1 _) hb2); have C2 := Lib.hid (C0.out.go hb2); obtain ⟨⟨p0, p1, p2, p3, p4⟩, -⟩ := C2.out; clear hb2)
          | (go_at_call 43; (with_reducible refine (hz1 _).mono ?_); rintro e w' ⟨rfl, rfl⟩)
          | (go_at_call 43; (with_reducible refine (hz2 _).mono ?_); rintro e w' ⟨rfl, rfl⟩)
          | (go_at_call 56; (with_reducible refine (HCD.out _).mono ?_); rintro e w' ⟨rfl, rfl⟩))
        clear p0 p1 p2 p3 p4 HV HCD hz1 hz2
        go_loopw [11, 12, 13, 14] (fun vb vi _ _ wr => ∃ (i : Nat) (b : ByteArray), i ≤ L.length ∧ vi = .int .i64 (i : Int) ∧ vb = .string b ∧ Hid (Bst L M ((L.take i).flatten) b ∧ Below w2.heap.size w2 wr)) (fun _ vi _ _ _ => L.length - (intOf vi).toNat)
        case atStart => exact ⟨0, ⟨#[]⟩, Nat.zero_le _, rfl, rfl, Lib.hid ⟨by rw [List.take_zero]; exact Bst.nil L M, Below.refl _ _⟩⟩
        case round =>
          obtain ⟨i, b, hi, rfl, rfl, HI⟩ := hrel
          have C3 := Lib.hid (C2.out.go HI.out.2)
          obtain ⟨⟨p0, p1, p2, p3, p4⟩, -⟩ := C3.out
          by_cases hlt : i < L.length
          · have hlt2 : (i : Int) < (L.length : Int) := by omega
            have HF := Lib.hid (HFT.out i hlt)
            have HLM := Lib.hid (getD_mem (d := ([] : List ByteArray)) hlt)
            have HKL := Lib.hid (HKB.out _ HLM.out)
            have hl31 := HRW.out _ HLM.out
            obtain ⟨lv, hlv⟩ : ∃ lv, L.getD i [] = lv := ⟨_, rfl⟩
            have HLV := Lib.hid hlv
            rw [hlv] at HF HKL hl31
            have HBS := Lib.hid HI.out.1
            have HB0 := Lib.hid HI.out.2
            clear hlv HLM HI
            go_wp2
            go_loopw [11, 13, 14] (fun vb vk _ wr => ∃ (k : Nat) (b : ByteArray), k ≤ lv.length ∧ vk = .int .i64 (k : Int) ∧ vb = .string b ∧ Hid (Bst L M ((L.take i).flatten ++ lv.take k) b ∧ Below w2.heap.size w2 wr)) (fun _ vk _ _ => lv.length - (intOf vk).toNat)
            case atStart => exact ⟨0, b, Nat.zero_le _, rfl, rfl, Lib.hid ⟨by rw [List.take_zero, List.append_nil]; exact HBS.out, HB0.out⟩⟩
            case round =>
              clear p0 p1 p2 p3 p4 C3 HBS HB0
              obtain ⟨k, b, hk, rfl, rfl, HI⟩ := hrel
              have C3 := Lib.hid (C2.out.go HI.out.2)
              have HW := Lib.hid (bgo B2.out HI.out.2)
              obtain ⟨⟨p0, p1, p2, p3, p4⟩, -⟩ := C3.out
              obtain ⟨bl, off, u, m, cl, rfl, -, hbl, hcl, hrr, hm⟩ := (HR.out.below HW.out).at_ hlt
              rw [HLV.out] at hrr hm
              subst hm
              by_cases hkl : k < lv.length
              · have hkl2 : (k : Int) < (lv.length : Int) := by omega
                obtain ⟨b3, o3, rfl, -, hcx⟩ := hrr.cell hkl
                have HTK := Lib.hid (take_getD (d := ByteArray.empty) hkl)
                have hkx := HKL.out _ (getD_mem (d := ByteArray.empty) hkl)
                generalize lv.getD k ByteArray.empty = x at *
                have hxs := key_size hkx
                have HRX := Lib.hid (HRK.out x hxs _ HW.out)
                obtain ⟨rk, hrk⟩ : ∃ rk, rnkN x 0 L = rk := ⟨_, rfl⟩
                rw [hrk] at HRX
                have HRR := Lib.hid hrk
                clear hrk hrr
                have hge : (¬ M ≤ (rk : Int)) ∨ (M ≤ (rk : Int) ∧ b = ⟨#[]⟩) ∨ (M ≤ (rk : Int) ∧ b ≠ ⟨#[]⟩) := by
                  by_cases h : M ≤ (rk : Int)
                  · by_cases hb : b = ⟨#[]⟩
                    · exact .inr (.inl ⟨h, hb⟩)
                    · exact .inr (.inr ⟨h, hb⟩)
                  · exact .inl h
                rcases hge with hge | ⟨hge, rfl⟩ | ⟨hge, hbn⟩
                · have HN := Lib.hid (HI.out.1.skip (x := x) (by rw [HRR.out]; exact hge))
                  go_wp2_with (go_at_call 50; (with_reducible refine HRX.out.mono ?_); rintro e w5 ⟨rfl, hb5⟩; have B5 := Lib.hid (bgo HI.out.2 hb5); clear hb5)
                  exact ⟨⟨k + 1, b, by omega, by go_num, rfl, Lib.hid ⟨by rw [HTK.out, ← List.append_assoc]; exact HN.out, B5.out⟩⟩, by simp [intOf]; omega⟩
                · have HN := Lib.hid (HI.out.1.take (x := x) (by rw [HRR.out]; exact hge) (.inl ⟨rfl, fun y hy => by
                    rcases List.mem_append.1 hy with hy | hy
                    · obtain ⟨l, hl, hy⟩ := List.mem_flatten.1 hy
                      exact ne_zero (HKB.out l (List.mem_of_mem_take hl) y hy)
                    · exact ne_zero (HKL.out y (List.mem_of_mem_take hy))⟩))
                  go_wp2_with (go_at_call 50; (with_reducible refine HRX.out.mono ?_); rintro e w5 ⟨rfl, hb5⟩; have B5 := Lib.hid (bgo HI.out.2 hb5); clear hb5)
                  exact ⟨⟨k + 1, x, by omega, by go_num, rfl, Lib.hid ⟨by rw [HTK.out, ← List.append_assoc]; exact HN.out, B5.out⟩⟩, by simp [intOf]; omega⟩
                · have hb1 := str_ne (size_pos hbn)
                  have hb2 : ¬ b = ByteArray.empty := hbn
                  have hb3 : ¬ b.toList = [] := fun e => by rw [e] at hb1; cases hb1
                  cases hlx : lessK x b with
                  | true =>
                    have hl2 : Op.bytesLess x.toList b.toList = true := hlx
                    have HN := Lib.hid (HI.out.1.take (x := x) (by rw [HRR.out]; exact hge) (.inr hlx))
                    clear hlx
                    go_wp2_with (go_at_call 50; (with_reducible refine HRX.out.mono ?_); rintro e w5 ⟨rfl, hb5⟩; have B5 := Lib.hid (bgo HI.out.2 hb5); clear hb5)
                    exact ⟨⟨k + 1, x, by omega, by go_num, rfl, Lib.hid ⟨by rw [HTK.out, ← List.append_assoc]; exact HN.out, B5.out⟩⟩, by simp [intOf]; omega⟩
                  | false =>
                    have hl2 : Op.bytesLess x.toList b.toList = false := hlx
                    have HN := Lib.hid (HI.out.1.keep (x := x) hbn hlx)
                    clear hlx
                    go_wp2_with (go_at_call 50; (with_reducible refine HRX.out.mono ?_); rintro e w5 ⟨rfl, hb5⟩; have B5 := Lib.hid (bgo HI.out.2 hb5); clear hb5)
                    exact ⟨⟨k + 1, b, by omega, by go_num, rfl, Lib.hid ⟨by rw [HTK.out, ← List.append_assoc]; exact HN.out, B5.out⟩⟩, by simp [intOf]; omega⟩
              · obtain rfl : k = lv.length := by omega
                have HN := Lib.hid HI.out.1
                rw [List.take_length] at HN
                go_wp2
                exact ⟨⟨i + 1, b, by omega, by go_num, rfl, Lib.hid ⟨by rw [HF.out]; exact HN.out, HI.out.2⟩⟩, by simp [intOf]; omega⟩
          · obtain rfl : i = L.length := by omega
            have HN := Lib.hid HI.out.1
            rw [List.take_length] at HN
            go_wp2
            go_ret2
            exact ⟨_, rfl, HQR.out _ (HN.out.done HEX.out), bgo B2.out HI.out.2⟩
    · have hqe : qtE ⟨S, T, K, L, s⟩ num den = 5 := by unfold qtE; dsimp only; rw [if_pos hE, if_neg hD]
      have HQR : Hid (QRes ⟨S, T, K, L, s⟩ num den ⟨#[]⟩) := Lib.hid (by unfold QRes; rw [hqe, if_neg (by decide)])
      rw [hqe]
      generalize QRes ⟨S, T, K, L, s⟩ num den = QR at *
      have hD2 : inW den 1 1000000 = false ∨ (inW den 1 1000000 = true ∧ inW num 0 den = false) := by
        unfold inW
        by_cases h : 1 ≤ den ∧ den ≤ 1000000
        · right; simp; omega
        · left; simp; omega
      clear hE hval hqe hD
      rcases hD2 with hD2 | ⟨hD1, hD2⟩
      · rw [hD2] at hz1
        go_enter Tryd.func28, Tryd.ntmps28
        go_wp2_with (first
          | (go_at_call 21; (with_reducible refine (HV.out _ (b1 _)).mono ?_); rintro e w2 ⟨rfl, hb2⟩; have B2 := Lib.hid (bgo (b1 _) hb2); clear hb2)
          | (go_at_call 43; (with_reducible refine (hz1 _).mono ?_); rintro e w' ⟨rfl, rfl⟩))
        go_ret2
        exact ⟨_, rfl, HQR.out, B2.out⟩
      · rw [hD1] at hz1
        rw [hD2] at hz2
        go_enter Tryd.func28, Tryd.ntmps28
        go_wp2_with (first
          | (go_at_call 21; (with_reducible refine (HV.out _ (b1 _)).mono ?_); rintro e w2 ⟨rfl, hb2⟩; have B2 := Lib.hid (bgo (b1 _) hb2); clear hb2)
          | (go_at_call 43; (with_reducible refine (hz1 _).mono ?_); rintro e w' ⟨rfl, rfl⟩)
          | (go_at_call 43; (with_reducible refine (hz2 _).mono ?_); rintro e w' ⟨rfl, rfl⟩))
        go_ret2
        exact ⟨_, rfl, HQR.out, B2.out⟩
  · have hqe : qtE ⟨S, T, K, L, s⟩ num den = valR S T K L := by unfold qtE; dsimp only; rw [if_neg hE]
    have HQR : Hid (QRes ⟨S, T, K, L, s⟩ num den ⟨#[]⟩) := Lib.hid (by unfold QRes; rw [hqe, if_neg hE])
    have hE2 : (valR S T K L != 0) = true := by simpa using hE
    rw [hqe]
    generalize QRes ⟨S, T, K, L, s⟩ num den = QR at *
    clear hE hqe
    go_enter Tryd.func28, Tryd.ntmps28
    go_wp2_with (go_at_call 21; (with_reducible refine (HV.out _ (b1 _)).mono ?_); rintro e w2 ⟨rfl, hb2⟩; have B2 := Lib.hid (bgo (b1 _) hb2); clear hb2)
    go_ret2
    exact ⟨_, rfl, HQR.out, B2.out⟩
end Go.Proofs.YtdifilhfmbpalaaDoor
