/- RkQ, Srch, RkR, RRkR, RkSm, RkP, RkV, RkKn: in one text. -/
import Derived.Test.YtdifilhfmbpalaaDoorRkN
import Derived.Test.YtdifilhfmbpalaaDoorProg
import Derived.Test.YtdifilhfmbpalaaDoorWords
import Derived.Test.YtdifilhfmbpalaaDoorBel
import Derived.Test.YtdifilhfmbpalaaDoorIntRow
import Derived.Test.YtdifilhfmbpalaaDoorPRVal
import Derived.Test.YtdifilhfmbpalaaDoorRkU
import Derived.Test.YtdifilhfmbpalaaDoorRRVal
import Derived.Test.YtdifilhfmbpalaaDoorItem
import Derived.Test.YtdifilhfmbpalaaDoorRkI2
import Derived.Test.YtdifilhfmbpalaaDoorBase
import Derived.Deep.RegionLaw
import Derived.BigQuiet
import Derived.Shelf.Abstract
namespace Go.Proofs.YtdifilhfmbpalaaDoor
open Go.RowKit
set_option linter.unusedVariables false
set_option linter.unusedSimpArgs false
/-- How many keys of a level are at most k. -/
def cntK (k : ByteArray) : List ByteArray → Nat
  | [] => 0
  | x :: l => (if lessK k x = true then 0 else 1) + cntK k l
/-- The rank of k in the levels from i on. -/
def rnkN (k : ByteArray) : Nat → List (List ByteArray) → Nat
  | _, [] => 0
  | i, l :: L => cntK k l * 2 ^ i + rnkN k (i + 1) L
theorem cntK_le (k : ByteArray) : ∀ l : List ByteArray, cntK k l ≤ l.length
  | [] => Nat.le_refl _
  | x :: l => by
    have := cntK_le k l
    simp only [cntK, List.length_cons]
    split <;> omega
theorem cntK_app (k : ByteArray) : ∀ l m : List ByteArray, cntK k (l ++ m) = cntK k l + cntK k m
  | [], m => by simp [cntK]
  | x :: l, m => by simp only [List.cons_append, cntK, cntK_app k l m]; omega
theorem cntK_perm {k : ByteArray} {l m : List ByteArray} (h : l.Perm m) : cntK k l = cntK k m := by
  induction h with
  | nil => rfl
  | cons x _ ih => simp only [cntK, ih]
  | swap x y l => simp only [cntK]; omega
  | trans _ _ ih1 ih2 => exact ih1.trans ih2
theorem cntK_all {k : ByteArray} : ∀ {l : List ByteArray}, (∀ x ∈ l, lessK k x = false) → cntK k l = l.length
  | [], _ => rfl
  | x :: l, h => by
    have h1 := cntK_all (l := l) (fun y hy => h y (by simp [hy]))
    simp only [cntK, List.length_cons, h1]
    rw [if_neg (by rw [h x (by simp)]; simp)]
    omega
theorem cntK_none {k : ByteArray} : ∀ {l : List ByteArray}, (∀ x ∈ l, lessK k x = true) → cntK k l = 0
  | [], _ => rfl
  | x :: l, h => by
    have h1 := cntK_none (l := l) (fun y hy => h y (by simp [hy]))
    simp only [cntK, h1]
    rw [if_pos (h x (by simp))]
/-- In an ascending level it is where the greater keys begin. -/
theorem cntK_of {k : ByteArray} {l : List ByteArray} {m : Nat} (hm : m ≤ l.length) (h1 : ∀ i, i < m → lessK k (l.getD i ByteArray.empty) = false) (h2 : ∀ i, m ≤ i → i < l.length → lessK k (l.getD i ByteArray.empty) = true) : cntK k l = m := by
  have e : l = l.take m ++ l.drop m := (List.take_append_drop m l).symm
  rw [e, cntK_app, cntK_all (l := l.take m), cntK_none (l := l.drop m), List.length_take]
  · omega
  · intro x hx
    obtain ⟨i, hi, rfl⟩ := List.getElem_of_mem hx
    rw [List.length_drop] at hi
    have h := h2 (m + i) (by omega) (by omega)
    simp only [List.getD] at h
    rw [List.getElem?_eq_getElem (by omega)] at h
    rw [List.getElem_drop]
    exact h
  · intro x hx
    obtain ⟨i, hi, rfl⟩ := List.getElem_of_mem hx
    rw [List.length_take] at hi
    have h := h1 i (by omega)
    simp only [List.getD] at h
    rw [List.getElem?_eq_getElem (by omega)] at h
    rw [List.getElem_take]
    exact h
theorem rnkN_le (k : ByteArray) : ∀ (L : List (List ByteArray)) (i : Nat), rnkN k i L ≤ insN i L
  | [], _ => Nat.le_refl _
  | l :: L, i => by
    have h1 := rnkN_le k L (i + 1)
    have h2 := Nat.mul_le_mul_right (2 ^ i) (cntK_le k l)
    simp only [rnkN, insN]
    omega
theorem rnkN_app (k : ByteArray) : ∀ (L M : List (List ByteArray)) (i : Nat), rnkN k i (L ++ M) = rnkN k i L + rnkN k (i + L.length) M
  | [], M, i => by simp [rnkN]
  | l :: L, M, i => by
    have := rnkN_app k L M (i + 1)
    simp only [List.cons_append, rnkN, this, List.length_cons]
    rw [show i + 1 + L.length = i + (L.length + 1) by omega]
    omega
theorem rnkN_take {k : ByteArray} {L : List (List ByteArray)} {j : Nat} (h : j < L.length) : rnkN k 0 (L.take (j + 1)) = rnkN k 0 (L.take j) + cntK k (L.getD j []) * 2 ^ j := by
  rw [take_getD (d := []) h, rnkN_app]
  simp [rnkN, List.length_take, Nat.min_eq_left (Nat.le_of_lt h)]
theorem rnkN_take_le {k : ByteArray} {L : List (List ByteArray)} (j : Nat) : rnkN k 0 (L.take j) ≤ rnkN k 0 L := by
  have h := rnkN_app k (L.take j) (L.drop j) 0
  rw [List.take_append_drop] at h
  omega
/-- A closure that answers p below n, and only draws. -/
def TellsS (f : FuncId) (c1 c2 : Value) (p : Nat → Bool) (n : Nat) (w : World) : Prop :=
  (∀ args w, (callFunc f args).run Tryd.prog w = .ok (.enter f args) w) ∧ ∀ m i, i < n → Calls Tryd.prog f #[.int .i64 (i : Int), c1, c2] (w.drewN m) fun e w' => e = .returned (.bool (p i)) ∧ ∃ m', w' = w.drewN m'
set_option maxRecDepth 100000 in
set_option maxHeartbeats 2000000 in
theorem search_any (f : FuncId) (c1 c2 : Value) (p : Nat → Bool) (n : Nat) (w : World) (ht : TellsS f c1 c2 p n w) (hp : ∀ i j, i ≤ j → j < n → p i = true → p j = true) (hn : n ≤ 549755813888) :
    Calls Tryd.prog 54 #[.int .i64 (n : Int), .func (.func f) #[] #[c1, c2]] w fun e w' =>
      ∃ k m, k ≤ n ∧ (∀ i, i < k → p i = false) ∧ (k < n → p k = true) ∧ e = .returned (.int .i64 (k : Int)) ∧ w' = w.drewN m := by
  obtain ⟨he, hf⟩ := ht
  have HF := Lib.hid hf
  have HP := Lib.hid hp
  clear hf hp
  go_enter Tryd.func54, Tryd.ntmps54
  go_wp2
  go_loopw [5, 6] (fun vi vj wr => ∃ i j m : Nat, i ≤ j ∧ j ≤ n ∧ vi = .int .i64 (i : Int) ∧ vj = .int .i64 (j : Int) ∧ wr = w.drewN m ∧ Hid ((∀ x, x < i → p x = false) ∧ (j < n → p j = true))) (fun vi vj _ => (intOf vj).toNat - (intOf vi).toNat)
  case atStart => exact ⟨0, n, 0, Nat.zero_le _, Nat.le_refl _, rfl, rfl, rfl, Lib.hid ⟨fun x hx => absurd hx (Nat.not_lt_zero _), fun h => absurd h (Nat.lt_irrefl _)⟩⟩
  case round =>
    obtain ⟨i, j, m, hij, hjn, rfl, rfl, rfl, HI⟩ := hrel
    by_cases hlt : i < j
    · have hlt2 : (i : Int) < (j : Int) := by omega
      obtain ⟨h, hh⟩ : ∃ h, h = (i + j) / 2 := ⟨_, rfl⟩
      have hih : i ≤ h := by omega
      have hhj : h < j := by omega
      have hd : ((i : Int) + (j : Int)) / 2 = (h : Int) := by omega
      have hw1 : IntKind.u64.wrap ((i : Int) + (j : Int)) = (i : Int) + (j : Int) := by rw [IntKind.wrap_u64]; omega
      have hw2 : wrap64 ((i : Int) + (j : Int)) = (i : Int) + (j : Int) := by unfold wrap64; omega
      have hw4 : IntKind.i64.wrap (h : Int) = (h : Int) := by rw [IntKind.wrap_i64]; omega
      have hw5 : wrap64 (h : Int) = (h : Int) := by unfold wrap64; omega
      have hw6 : IntKind.u64.wrap (h : Int) = (h : Int) := by rw [IntKind.wrap_u64]; omega
      clear hh
      have HC := Lib.hid (HF.out m h (by omega))
      cases hph : p h
      · have hc := HC.out
        rw [hph] at hc
        have HC2 := Lib.hid hc
        have hnx : ∀ x, x < h + 1 → p x = false := fun x hx => by
          cases hx2 : p x with
          | false => rfl
          | true =>
            have h3 := HP.out x h (by omega) (by omega) hx2
            rw [hph] at h3
            cases h3
        have HNX : Hid ((∀ x, x < h + 1 → p x = false) ∧ (j < n → p j = true)) := Lib.hid ⟨hnx, HI.out.2⟩
        clear hnx
        clear hc HC hph
        go_wp2_with ((with_reducible refine HC2.out.mono ?_); rintro e w' ⟨rfl, m', rfl⟩)
        exact ⟨⟨h + 1, j, m', by omega, hjn, by go_num, rfl, rfl, HNX⟩, by simp [intOf]; omega⟩
      · have hc := HC.out
        rw [hph] at hc
        have HC2 := Lib.hid hc
        have HNX : Hid ((∀ x, x < i → p x = false) ∧ (h < n → p h = true)) := Lib.hid ⟨HI.out.1, fun _ => hph⟩
        clear hc HC hph
        go_wp2_with ((with_reducible refine HC2.out.mono ?_); rintro e w' ⟨rfl, m', rfl⟩)
        exact ⟨⟨i, h, m', hih, by omega, rfl, by go_num, rfl, HNX⟩, by simp [intOf]; omega⟩
    · obtain rfl : i = j := by omega
      go_wp2
      go_ret
      exact ⟨_, m, hjn, HI.out.1, HI.out.2, rfl, rfl⟩
theorem gtr_eq (k x : ByteArray) : (!Op.bytesLess x.toList k.toList && !x.toList == k.toList) = lessK k x := by
  have h0 : Op.bytesLess x.toList k.toList = lessK x k := rfl
  rw [h0]
  cases h : lessK k x with
  | true =>
    have h1 : lessK x k = false := lessK_asym h
    have h2 : (x.toList == k.toList) = false := by
      rw [beq_eq_false_iff_ne]
      intro e
      have h3 : lessK k x = lessK x x := by unfold lessK; rw [e]
      rw [lessK_irr, h] at h3
      cases h3
    rw [h1, h2]
    rfl
  | false =>
    rcases lessK_tri x k with h1 | h1 | h1
    · rw [h1]; rfl
    · subst h1; simp
    · rw [h] at h1; cases h1
set_option maxRecDepth 100000 in
set_option maxHeartbeats 1000000 in
theorem rank1_any (l : List ByteArray) (k : ByteArray) (gk gs : Nat) (v : Value) (w : World) (h1 : w.cell? ⟨gk, 0, none⟩ = some v) (hv : RdS l v w) (h2 : w.cell? ⟨gs, 0, none⟩ = some (.string k)) (m i : Nat) (hi : i < l.length) (hn : l.length ≤ 549755813888) (hs : SOk l) (hk : k.size ≤ maxLen) :
    Calls Tryd.prog 74 #[.int .i64 (i : Int), .pointer (some ⟨gk, 0, none⟩), .pointer (some ⟨gs, 0, none⟩)] (w.drewN m) fun e w' => e = .returned (.bool (lessK k (l.getD i ByteArray.empty))) ∧ ∃ m', w' = w.drewN m' := by
  obtain ⟨a, c, rfl⟩ := hv.shape
  obtain ⟨b, o, rfl, -, hc⟩ := hv.cell hi
  have hsx := hs.at_ i
  generalize l.getD i ByteArray.empty = x at *
  have hi2 : (i : Int) < (l.length : Int) := by omega
  clear hv hs
  go_enter Tryd.func74, Tryd.ntmps74
  go_wp2
  go_quiet (fail)
  go_wp2
  go_ret
  exact ⟨by rw [← gtr_eq]; rfl, _, World.drewN_drewN _ _ _⟩
theorem enters_rank1 : ∀ args w, (callFunc 74 args).run Tryd.prog w = .ok (.enter 74 args) w := Go.Proofs.enters_of Tryd.func74 (by kernel_rfl) rfl
theorem asc_mono {l : List ByteArray} (h : Asc l) {k : ByteArray} {i j : Nat} (hij : i ≤ j) (hj : j < l.length) (hi : lessK k (l.getD i ByteArray.empty) = true) : lessK k (l.getD j ByteArray.empty) = true := by
  by_cases he : i = j
  · subst he; exact hi
  · have h1 := List.pairwise_iff_getElem.1 h i j (by omega) hj (by omega)
    have e1 : l.getD i ByteArray.empty = l[i]'(by omega) := by simp [List.getD, show i < l.length by omega]
    have e2 : l.getD j ByteArray.empty = l[j] := by simp [List.getD, hj]
    rw [e1] at hi
    rw [e2]
    cases h2 : lessK k l[j] with
    | true => rfl
    | false =>
      have h3 := leK_trans h1 h2
      rw [hi] at h3
      cases h3
set_option maxRecDepth 100000 in
set_option maxHeartbeats 2000000 in
theorem rank_any (L : List (List ByteArray)) (v : Value) (k : ByteArray) (w : World) (hr : RdL L v w) (hok : LOk L) (hg : ∀ l ∈ L, Asc l ∧ l.length ≤ 31) (hn : L.length ≤ 41) (hs : insN 0 L ≤ 1099511627776) (hk : k.size ≤ maxLen) :
    Calls Tryd.prog 49 #[v, .string k] w fun e w' => e = .returned (.int .i64 (rnkN k 0 L : Nat)) ∧ Below w.heap.size w w' := by
  obtain ⟨a, c, rfl⟩ := hr.shape
  have HR := Lib.hid hr
  have HG := Lib.hid (fun j => getD_all (p := fun l => Asc l ∧ l.length ≤ 31) hg ⟨List.Pairwise.nil, Nat.zero_le _⟩ j)
  have HO := Lib.hid hok
  have HT := Lib.hid (fun j => Nat.le_trans (rnkN_take_le (k := k) (L := L) j) (Nat.le_trans (rnkN_le k L 0) hs))
  clear hr hok hg hs
  go_enter Tryd.func49, Tryd.ntmps49
  go_wp2
  have HK0 : Hid ((w.alloc (.cells #[.string k] 9)).cell? ⟨w.heap.size, 0, none⟩ = some (.string k)) := Lib.hid (by go_simp)
  have HB0 : Hid (Below w.heap.size w (w.alloc (.cells #[.string k] 9))) := Lib.hid (b1 _)
  have HS0 : Hid (w.heap.size < (w.alloc (.cells #[.string k] 9)).heap.size) := Lib.hid (by simp)
  generalize w.alloc (.cells #[.string k] 9) = W0 at *
  go_loopw [5, 10] (fun vs vj wr => ∃ j : Nat, j ≤ L.length ∧ vj = .int .i64 (j : Int) ∧ Hid (vs = .int .i64 (rnkN k 0 (L.take j) : Nat)) ∧ Hid (Below W0.heap.size W0 wr)) (fun _ vj _ => L.length - (intOf vj).toNat)
  case atStart => exact ⟨0, Nat.zero_le _, rfl, Lib.hid rfl, Lib.hid (Below.refl _ _)⟩
  case round =>
    obtain ⟨j, hj, rfl, HX, HI⟩ := hrel
    have hx := HX.out
    subst hx
    by_cases hlt : j < L.length
    · have hlt2 : (j : Int) < (L.length : Int) := by omega
      obtain ⟨b, off, u, m, c2, rfl, -, hb, hc, hrr, hm⟩ := (HR.out.below (bgo HB0.out HI.out)).at_ hlt
      have hst := rnkN_take (k := k) hlt
      have hbd := HT.out (j + 1)
      have hgl := HG.out j
      have hsl := (HO.out.at_ j).2
      subst hm
      generalize L.getD j [] = l at *
      have hp40 : j ≤ 40 := by omega
      have hkw := ((bcell HI.out).1 w.heap.size 0 HS0.out).trans HK0.out
      have hWA := (b1 (a := wr) (.cells #[.slice u l.length c2] 57))
      have hg1 : w.heap.size < wr.heap.size := Nat.lt_of_lt_of_le HS0.out HI.out.size
      have hts : TellsS 74 (.pointer (some ⟨wr.heap.size, 0, none⟩)) (.pointer (some ⟨w.heap.size, 0, none⟩)) (fun i => lessK k (l.getD i ByteArray.empty)) l.length (wr.alloc (.cells #[.slice u l.length c2] 57)) :=
        ⟨enters_rank1, fun m i hi => rank1_any l k wr.heap.size w.heap.size (.slice u l.length c2) _ (by go_simp) (hrr.below hWA) (((bcell hWA).1 w.heap.size 0 hg1).trans hkw) m i hi (by omega) hsl hk⟩
      have HSE := Lib.hid (search_any _ _ _ _ l.length _ hts (fun a b hab hb ha => asc_mono hgl.1 hab hb ha) (by omega))
      have HCN := Lib.hid (fun (q : Nat) (h0 : q ≤ l.length) (h1 : ∀ i, i < q → lessK k (l.getD i ByteArray.empty) = false) (h2 : q < l.length → lessK k (l.getD q ByteArray.empty) = true) => cntK_of h0 h1 (fun i h3 h4 => asc_mono hgl.1 h3 h4 (h2 (by omega))))
      have HAF := Lib.hid (bal HI.out (.cells #[.slice u l.length c2] 57))
      have hcl := cntK_le k l
      clear hts hWA hrr hsl
      generalize rnkN k 0 (L.take j) = s at *
      generalize cntK k l = q0 at *
      have HST := Lib.hid hst
      have hq1 : s + q0 * 2 ^ j ≤ 1099511627776 := by rw [← hst]; exact hbd
      have hshl := wr_mul q0 j (by omega)
      have hadd := wr_pow s q0 j (by omega)
      have hsh2 : (0 : Int) ≤ (j : Int) := by omega
      clear hst hbd hgl
      go_wp2_with (go_at_call 54; (with_reducible refine HSE.out.mono ?_); rintro e w2 ⟨q, m, h0, h1, h2, rfl, rfl⟩; have hq := HCN.out q h0 h1 h2; subst hq; clear h0 h1 h2)
      exact ⟨⟨j + 1, by omega, by go_num, Lib.hid (by rw [HST.out, ← hadd]), Lib.hid (below_drewN HAF.out m)⟩, by simp [intOf]; omega⟩
    · obtain rfl : j = L.length := by omega
      rw [List.take_length]
      go_wp2
      go_ret
      exact ⟨rfl, bgo HB0.out HI.out⟩
/-- What Rank answers. -/
def rkR (t : RK) (k : ByteArray) : Int := if valR t.S t.T t.K t.L = 0 then (if keyB (byt k) = true then (rnkN k 0 t.L : Nat) else 0) else 0
def rkRE (t : RK) (k : ByteArray) : Int := if valR t.S t.T t.K t.L = 0 then (if keyB (byt k) = true then 0 else 7) else valR t.S t.T t.K t.L
set_option maxRecDepth 100000 in
set_option maxHeartbeats 2000000 in
theorem prank_any (t : RK) (v : Value) (k : ByteArray) (w : World) (hv : RdR t v w) (hok : LOk t.L) (hk : k.size ≤ maxLen) :
    Calls Tryd.prog 24 #[v, .string k] w fun e w' => e = .returned (.tuple #[.int .i64 (rkR t k), .int .i64 (rkRE t k)]) ∧ Below w.heap.size w w' := by
  obtain ⟨S, T, K, L, s⟩ := t
  obtain ⟨a, c, rfl, hr⟩ := hv.run
  clear hv
  dsimp only at hr hok ⊢
  have HV := Lib.hid (fun (w' : World) (hb : Below w.heap.size w w') => pvalR_any S T K L s a L.length c w' (hr.below hb) hok)
  have hky := fun w => isKey_any k w hk
  have HR0 := Lib.hid (fun (w2 : World) (hb2 : Below (w.alloc (.cells #[.int .i64 S, .int .i64 T, .int .i64 K, .slice a L.length c, .bool s] 28)).heap.size (w.alloc (.cells #[.int .i64 S, .int .i64 T, .int .i64 K, .slice a L.length c, .bool s] 28)) w2) => ((RsS.new S T K (.slice a L.length c) s 28 w).go hb2).1)
  unfold rkR rkRE
  dsimp only
  by_cases hE : valR S T K L = 0
  · rw [hE] at HV
    rw [if_pos hE, if_pos hE]
    have hval := valR_ok hE
    have HRK := Lib.hid (fun (w' : World) (hb : Below w.heap.size w w') => rank_any L (.slice a L.length c) k w' (hr.below hb) hok (fun l hl => ⟨(hval.lv l hl).2.2, hval.rows l hl⟩) hval.nl (by have := hval.sum; have := hval.t1; omega) hk)
    generalize rnkN k 0 L = R at *
    clear hval hE hr hok
    cases hK : keyB (byt k)
    all_goals
      rw [hK] at hky
      go_enter Tryd.func24, Tryd.ntmps24
      go_wp2_with (first
        | (go_at_call 20; (with_reducible refine (HV.out _ (b1 _)).mono ?_); rintro e w2 ⟨rfl, hb2⟩; obtain ⟨p0, p1, p2, p3, p4⟩ := HR0.out _ hb2; have B2 := Lib.hid (bgo (b1 _) hb2); clear hb2)
        | (go_at_call 48; (with_reducible refine (hky _).mono ?_); rintro e w3 ⟨rfl, rfl⟩)
        | (go_at_call 49; (with_reducible refine (HRK.out _ B2.out).mono ?_); rintro e w4 ⟨rfl, hb4⟩; have B4 := Lib.hid (bgo B2.out hb4); clear hb4))
      go_ret2
      first
        | exact ⟨rfl, B4.out⟩
        | exact ⟨rfl, B2.out⟩
  · have hE2 : (valR S T K L != 0) = true := by simpa using hE
    rw [if_neg hE, if_neg hE]
    clear hE hr hok
    go_enter Tryd.func24, Tryd.ntmps24
    go_wp2_with (go_at_call 20; (with_reducible refine (HV.out _ (b1 _)).mono ?_); rintro e w2 ⟨rfl, hb2⟩; have B2 := Lib.hid (bgo (b1 _) hb2); clear hb2)
    go_ret2
    exact ⟨rfl, B2.out⟩
theorem cntK_take {k : ByteArray} {l : List ByteArray} {j : Nat} (h : j < l.length) : cntK k (l.take (j + 1)) = cntK k (l.take j) + (if lessK k (l.getD j ByteArray.empty) = true then 0 else 1) := by
  rw [take_getD (d := ByteArray.empty) h, cntK_app]
  simp [cntK]
theorem leq_eq (k x : ByteArray) : (Op.bytesLess x.toList k.toList || x.toList == k.toList) = !lessK k x := by
  rw [← gtr_eq]
  cases Op.bytesLess x.toList k.toList <;> cases (x.toList == k.toList) <;> rfl
set_option maxRecDepth 100000 in
set_option maxHeartbeats 2000000 in
theorem rrank_any (t : RK) (v : Value) (k : ByteArray) (w : World) (hv : RdR t v w) (hok : LOk t.L) (hg : ∀ l ∈ t.L, l.length ≤ 31) (hn : t.L.length ≤ 41) (hs : insN 0 t.L ≤ 1099511627776) (hk : k.size ≤ maxLen) :
    Calls Tryd.prog 50 #[v, .string k] w fun e w' => e = .returned (.int .i64 (rnkN k 0 t.L : Nat)) ∧ Below w.heap.size w w' := by
  obtain ⟨S, T, K, L, s⟩ := t
  obtain ⟨a, c, rfl, hr⟩ := hv.run
  clear hv
  dsimp only at hr hok hg hn hs ⊢
  have HR := Lib.hid hr
  have HG := Lib.hid (fun j => getD_all (p := fun l => l.length ≤ 31) hg (Nat.zero_le _) j)
  have HO := Lib.hid hok
  have HT := Lib.hid (fun j => Nat.le_trans (rnkN_take_le (k := k) (L := L) j) (Nat.le_trans (rnkN_le k L 0) hs))
  clear hr hok hg hs
  go_enter Tryd.func50, Tryd.ntmps50
  go_wp2
  have HK0 : Hid ((w.alloc (.cells #[.int .i64 S, .int .i64 T, .int .i64 K, .slice a L.length c, .bool s] 28)).cell? ⟨w.heap.size, 3, none⟩ = some (.slice a L.length c)) := Lib.hid (RsS.new S T K (.slice a L.length c) s 28 w).1.2.2.2.1
  have HB0 : Hid (Below w.heap.size w (w.alloc (.cells #[.int .i64 S, .int .i64 T, .int .i64 K, .slice a L.length c, .bool s] 28))) := Lib.hid (b1 _)
  generalize w.alloc (.cells #[.int .i64 S, .int .i64 T, .int .i64 K, .slice a L.length c, .bool s] 28) = W0 at *
  have hcell := HK0.out
  go_loopw [5, 6] (fun vs vj wr => ∃ j : Nat, j ≤ L.length ∧ vj = .int .i64 (j : Int) ∧ Hid (vs = .int .i64 (rnkN k 0 (L.take j) : Nat)) ∧ W0 = wr) (fun _ vj _ => L.length - (intOf vj).toNat)
  case atStart => exact ⟨0, Nat.zero_le _, rfl, Lib.hid rfl, rfl⟩
  case round =>
    obtain ⟨j, hj, rfl, HX, rfl⟩ := hrel
    have hx := HX.out
    subst hx
    by_cases hlt : j < L.length
    · have hlt2 : (j : Int) < (L.length : Int) := by omega
      obtain ⟨b, off, u, m, c2, rfl, -, hb, hc, hrr, hm⟩ := (HR.out.below HB0.out).at_ hlt
      have hst := rnkN_take (k := k) hlt
      have hbd := HT.out (j + 1)
      have hgl := HG.out j
      subst hm
      generalize L.getD j [] = l at *
      have HRL := Lib.hid hrr
      have hp40 : j ≤ 40 := by omega
      have hcl := cntK_le k l
      have HST := Lib.hid hst
      rw [hst] at hbd
      generalize rnkN k 0 (L.take j) = s0 at *
      clear hst hrr
      go_wp2
      go_loopw [5, 7] (fun vs vi wr => ∃ i : Nat, i ≤ l.length ∧ vi = .int .i64 (i : Int) ∧ Hid (vs = .int .i64 ((s0 + cntK k (l.take i) * 2 ^ j : Nat) : Int)) ∧ W0 = wr) (fun _ vi _ => l.length - (intOf vi).toNat)
      case atStart => exact ⟨0, Nat.zero_le _, rfl, Lib.hid (by simp [cntK]), rfl⟩
      case round =>
        obtain ⟨i, hi, rfl, HY, rfl⟩ := hrel
        have hy := HY.out
        subst hy
        by_cases hli : i < l.length
        · have hli2 : (i : Int) < (l.length : Int) := by omega
          obtain ⟨b3, o3, rfl, -, hd⟩ := HRL.out.cell hli
          have HCT := Lib.hid (cntK_take (k := k) hli)
          have hq1 : cntK k (l.take (i + 1)) ≤ cntK k l := by
            have h := cntK_app k (l.take (i + 1)) (l.drop (i + 1))
            rw [List.take_append_drop] at h
            omega
          have hmul := Nat.mul_le_mul_right (2 ^ j) hq1
          have HQB : Hid (s0 + cntK k (l.take (i + 1)) * 2 ^ j ≤ 1099511627776) := Lib.hid (Nat.le_trans (Nat.add_le_add_left hmul s0) hbd)
          clear hmul hq1
          generalize l.getD i ByteArray.empty = x at *
          have hle := leq_eq k x
          have hsh2 : (0 : Int) ≤ (j : Int) := by omega
          have hshl := wr_mul 1 j (by have := pow40 hp40; omega)
          cases hL : lessK k x
          · rw [hL] at hle HCT
            have hle2 : (Op.bytesLess x.toList k.toList || x.toList == k.toList) = true := hle
            have HC2 : Hid (s0 + cntK k (l.take (i + 1)) * 2 ^ j = s0 + cntK k (l.take i) * 2 ^ j + 1 * 2 ^ j) := Lib.hid (by rw [HCT.out, if_neg (by simp), Nat.add_mul]; omega)
            have hq := HQB.out
            rw [HC2.out] at hq
            generalize s0 + cntK k (l.take i) * 2 ^ j = s1 at *
            have HW : Hid (wrap64 ((s1 : Int) + wrap64 (2 ^ j)) = ((s1 + 1 * 2 ^ j : Nat) : Int)) := Lib.hid (by
              have h1 := wr_pow 0 1 j (by rw [Nat.zero_add, Nat.one_mul]; exact Nat.le_trans (pow40 hp40) (by decide))
              have h2 := wr_pow s1 1 j (Nat.le_trans hq (by decide))
              rw [show (((0 : Nat) : Int) + ((1 : Nat) : Int) * 2 ^ j) = (2 : Int) ^ j by simp, show (((0 + 1 * 2 ^ j : Nat)) : Int) = (2 : Int) ^ j by simp] at h1
              rw [show ((1 : Nat) : Int) * 2 ^ j = (2 : Int) ^ j by simp] at h2
              rw [h1, h2])
            clear hle HCT hq
            go_wp2
            exact ⟨⟨i + 1, by omega, by go_num, Lib.hid (by rw [HC2.out, HW.out]), trivial⟩, by simp [intOf]; omega⟩
          · rw [hL] at hle HCT
            have hle2 : (Op.bytesLess x.toList k.toList || x.toList == k.toList) = false := hle
            have HC2 : Hid (s0 + cntK k (l.take (i + 1)) * 2 ^ j = s0 + cntK k (l.take i) * 2 ^ j) := Lib.hid (by rw [HCT.out, if_pos rfl]; rfl)
            clear hle HCT
            generalize s0 + cntK k (l.take i) * 2 ^ j = s1 at *
            go_wp2
            exact ⟨⟨i + 1, by omega, by go_num, Lib.hid (by rw [HC2.out]), trivial⟩, by simp [intOf]; omega⟩
        · obtain rfl : i = l.length := by omega
          rw [List.take_length]
          go_wp2
          exact ⟨⟨j + 1, by omega, by go_num, Lib.hid (by rw [HST.out]), trivial⟩, by simp [intOf]; omega⟩
    · obtain rfl : j = L.length := by omega
      rw [List.take_length]
      go_wp2
      go_ret
      exact ⟨rfl, HB0.out⟩
set_option maxRecDepth 100000 in
set_option maxHeartbeats 2000000 in
theorem sameR_any (t : RK) (v u : Value) (w : World) (hv : RdR t v w) (hu : RdR t u w) (hok : LOk t.L) :
    Calls Tryd.prog 19 #[v, u] w fun e w' => e = .returned (.bool true) ∧ Below w.heap.size w w' := by
  obtain ⟨S, T, K, L, s⟩ := t
  obtain ⟨aA, cA, rfl, hr⟩ := hv.run
  obtain ⟨aB, cB, rfl, hr2⟩ := hu.run
  dsimp only at hr hr2 hok ⊢
  have HR := Lib.hid hr
  have HU := Lib.hid hr2
  have HO := Lib.hid hok
  have hL := hok.1
  clear hr hr2 hv hu hok
  go_enter Tryd.func19, Tryd.ntmps19
  go_wp2
  obtain ⟨W0, hW0⟩ : ∃ W0, (w.alloc (.cells #[.int .i64 S, .int .i64 T, .int .i64 K, .slice aA L.length cA, .bool s] 28)).alloc (.cells #[.int .i64 S, .int .i64 T, .int .i64 K, .slice aB L.length cB, .bool s] 28) = W0 := ⟨_, rfl⟩
  have HA : Hid (W0.cell? ⟨w.heap.size, 3, none⟩ = some (.slice aA L.length cA)) := Lib.hid (by rw [← hW0]; exact ((RsS.new S T K (.slice aA L.length cA) s 28 w).go (b1 _)).1.2.2.2.1)
  have HB : Hid (W0.cell? ⟨w.heap.size + 1, 3, none⟩ = some (.slice aB L.length cB)) := Lib.hid (by
    have h := RsS.new S T K (.slice aB L.length cB) s 28 (w.alloc (.cells #[.int .i64 S, .int .i64 T, .int .i64 K, .slice aA L.length cA, .bool s] 28))
    rw [hW0, show (w.alloc (.cells #[.int .i64 S, .int .i64 T, .int .i64 K, .slice aA L.length cA, .bool s] 28)).heap.size = w.heap.size + 1 by simp] at h
    exact h.1.2.2.2.1)
  have HB0 : Hid (Below w.heap.size w W0) := Lib.hid (by rw [← hW0]; exact b2 _ _)
  have HS0 : Hid (w.heap.size + 1 < W0.heap.size) := Lib.hid (by rw [← hW0]; simp)
  rw [hW0]
  clear hW0
  go_loopw [5] (fun i wr => ∃ j : Nat, j ≤ L.length ∧ i = .int .i64 (j : Int) ∧ Hid (Below W0.heap.size W0 wr)) (fun i _ => L.length - (intOf i).toNat)
  case atStart => exact ⟨0, by omega, rfl, Lib.hid (Below.refl _ _)⟩
  case round =>
    obtain ⟨j, hj, rfl, HI⟩ := hrel
    have hs0 := HS0.out
    have ha := ((bcell HI.out).1 w.heap.size 3 (by omega)).trans HA.out
    have hb := ((bcell HI.out).1 (w.heap.size + 1) 3 (by omega)).trans HB.out
    by_cases hlt : j < L.length
    · have hlt2 : (j : Int) < (L.length : Int) := by omega
      have HBW := Lib.hid (bgo HB0.out HI.out)
      obtain ⟨b1', o1, u1, m1, k1, rfl, -, hb1, hc1, hr1, hm1⟩ := (HR.out.below HBW.out).at_ hlt
      obtain ⟨b2', o2, u2, m2, k2, rfl, -, hb2, hc2, hr2, hm2⟩ := (HU.out.below HBW.out).at_ hlt
      have hl := (HO.out.at_ j).1
      subst hm1
      subst hm2
      generalize L.getD j [] = l at *
      have HR1 := Lib.hid hr1
      have HR2 := Lib.hid hr2
      clear hr1 hr2
      go_wp2
      go_quiet (fail)
      go_wp2
      have HC := Lib.hid (And.intro ha (And.intro hb (And.intro hc1 hc2)))
      have HLT : Hid ((w.heap.size < wr.heap.size ∧ w.heap.size + 1 < wr.heap.size) ∧ b1' < wr.heap.size ∧ b2' < wr.heap.size) := Lib.hid ⟨⟨by have := HI.out.size; omega, by have := HI.out.size; omega⟩, hb1, hb2⟩
      clear ha hb hc1 hc2
      go_loopw [6] (fun i wr2 => ∃ k : Nat, k ≤ l.length ∧ i = .int .i64 (k : Int) ∧ Hid (Below wr.heap.size wr wr2)) (fun i _ => l.length - (intOf i).toNat)
      case atStart => exact ⟨0, by omega, rfl, Lib.hid (below_drewN (Below.refl _ _) _)⟩
      case round =>
        obtain ⟨k, hk, rfl, HI2⟩ := hrel
        have ha := ((bcell HI2.out).1 w.heap.size 3 HLT.out.1.1).trans HC.out.1
        have hb := ((bcell HI2.out).1 (w.heap.size + 1) 3 HLT.out.1.2).trans HC.out.2.1
        have hc1 := ((bcell HI2.out).1 b1' (o1 + j) HLT.out.2.1).trans HC.out.2.2.1
        have hc2 := ((bcell HI2.out).1 b2' (o2 + j) HLT.out.2.2).trans HC.out.2.2.2
        by_cases hlk : k < l.length
        · have hlk2 : (k : Int) < (l.length : Int) := by omega
          obtain ⟨b3, o3, rfl, -, hd1⟩ := (HR1.out.below HI2.out).cell hlk
          obtain ⟨b4, o4, rfl, -, hd2⟩ := (HR2.out.below HI2.out).cell hlk
          generalize l.getD k ByteArray.empty = x at *
          go_wp2
          go_quiet (fail)
          go_wp2
          exact ⟨⟨k + 1, by omega, by go_num, Lib.hid (below_drewN HI2.out _)⟩, by simp [intOf]; omega⟩
        · obtain rfl : k = l.length := by omega
          go_wp2
          exact ⟨⟨j + 1, by omega, by go_num, Lib.hid (bgo HI.out HI2.out)⟩, by simp [intOf]; omega⟩
    · obtain rfl : j = L.length := by omega
      go_wp2
      go_ret
      exact ⟨rfl, bgo HB0.out HI.out⟩
theorem cntK_one (k x : ByteArray) : cntK k [x] = if lessK k x = true then 0 else 1 := rfl
theorem cntK_hd (k x : ByteArray) (l : List ByteArray) : cntK k (x :: l) = (if lessK k x = true then 0 else 1) + cntK k l := rfl
/-- In an ascending level the keys that are at most k come first. -/
theorem cntK_at {k : ByteArray} : ∀ {l : List ByteArray}, Asc l → ∀ j, j < l.length → (lessK k (l.getD j ByteArray.empty) = false ↔ j < cntK k l)
  | [], _, j, hj => by cases hj
  | x :: l, h, j, hj => by
    have h' := List.pairwise_cons.1 h
    cases hx : lessK k x with
    | true =>
      have h0 : cntK k (x :: l) = 0 := cntK_none (fun y hy => by
        rcases List.mem_cons.1 hy with rfl | hy
        · exact hx
        · cases hk : lessK k y with
          | true => rfl
          | false => have := leK_trans (h'.1 y hy) hk; rw [hx] at this; cases this)
      rw [h0]
      constructor
      · intro hf
        exfalso
        have hm : (x :: l).getD j ByteArray.empty ∈ x :: l := getD_mem hj
        rcases List.mem_cons.1 hm with he | he
        · rw [he, hx] at hf; cases hf
        · have := leK_trans (h'.1 _ he) hf; rw [hx] at this; cases this
      · intro hf; cases hf
    | false =>
      have hc : cntK k (x :: l) = 1 + cntK k l := by rw [cntK_hd, hx]; rfl
      rw [hc]
      cases j with
      | zero => exact ⟨fun _ => by omega, fun _ => hx⟩
      | succ j =>
        have := cntK_at (k := k) h'.2 j (by simpa using hj)
        rw [List.getD_cons_succ, this]
        omega
theorem cntK_pickn {k : ByteArray} {b : Nat} {s : List ByteArray} (hs : Asc s) (hb : b ≤ 1) : ∀ t, t ≤ s.length / 2 → cntK k (pickn b s t) = min t ((cntK k s + 1 - b) / 2)
  | 0, _ => by simp [pickn, cntK]
  | t + 1, ht => by
    have ih := cntK_pickn (k := k) hs hb t (by omega)
    rw [pickn_succ, cntK_app, ih]
    have h := cntK_at (k := k) hs (b + 2 * t) (by omega)
    cases hl : lessK k (s.getD (b + 2 * t) ByteArray.empty) with
    | false =>
      have := h.1 hl
      rw [cntK_one, hl, if_neg (by simp)]
      omega
    | true =>
      have : ¬ b + 2 * t < cntK k s := fun h2 => by rw [h.2 h2] at hl; cases hl
      rw [cntK_one, hl, if_pos rfl]
      omega
/-- Half of the keys, at twice the weight, and what is left: at most one more or less. -/
theorem cntK_half {k : ByteArray} {b : Nat} {s : List ByteArray} (hs : Asc s) (hb : b ≤ 1) : cntK k (rst s) + 2 * cntK k (pick b s) ≤ cntK k s + 1 ∧ cntK k s ≤ cntK k (rst s) + 2 * cntK k (pick b s) + 1 := by
  have h1 := cntK_pickn (k := k) hs hb (s.length / 2) (Nat.le_refl _)
  have hle := cntK_le k s
  have hr : cntK k (rst s) = if s.length % 2 = 1 ∧ cntK k s = s.length then 1 else 0 := by
    unfold rst
    by_cases hp : s.length % 2 = 1
    · have hlt : s.length / 2 * 2 < s.length := by omega
      rw [drop_getD (d := ByteArray.empty) hlt, List.drop_eq_nil_of_le (by omega)]
      have h := cntK_at (k := k) hs (s.length / 2 * 2) hlt
      cases hl : lessK k (s.getD (s.length / 2 * 2) ByteArray.empty) with
      | false =>
        have := h.1 hl
        rw [if_pos ⟨hp, by omega⟩, cntK_one, hl, if_neg (by simp)]
      | true =>
        have : ¬ s.length / 2 * 2 < cntK k s := fun h2 => by rw [h.2 h2] at hl; cases hl
        rw [if_neg (fun hh => by omega), cntK_one, hl, if_pos rfl]
    · rw [List.drop_eq_nil_of_le (by omega), if_neg (fun hh => hp hh.1)]
      rfl
  unfold pick
  rw [h1, hr]
  split <;> omega
theorem rnkN_addC (k : ByteArray) (i : Nat) (L : List (List ByteArray)) (c : List ByteArray) : rnkN k i (addC L c) = rnkN k i L + cntK k c * 2 ^ i := by
  cases L with
  | nil => cases c <;> simp [addC, rnkN, cntK]
  | cons l L => simp only [addC, rnkN, cntK_app, Nat.add_mul]; omega
theorem aS_step {K x : Int} (h0 : 0 ≤ K) (hx : 0 ≤ x) (d : Int) (h1 : d ≤ K + x) (h2 : d ≤ 1099511627776) : d ≤ aS K x := by
  unfold aS satN nat0
  split <;> omega
/-- The rank after settling, beside D: as near as the slack says. -/
theorem stl_rank {S : Int} {C : List Int} (h2 : 2 ≤ S) (k : ByteArray) (i : Nat) (L : List (List ByteArray)) (K a : Int) :
    ∀ (c D : Nat), 0 ≤ K → c + insN i L ≤ 1099511627776 → D ≤ 1099511627776 → ((c + rnkN k i L : Nat) : Int) - D ≤ K → (D : Int) - ((c + rnkN k i L : Nat) : Int) ≤ K →
      ((c + rnkN k i (stl S C i L K a).1 : Nat) : Int) - D ≤ (stl S C i L K a).2.1 ∧ (D : Int) - ((c + rnkN k i (stl S C i L K a).1 : Nat) : Int) ≤ (stl S C i L K a).2.1 := by
  refine stl_ind h2 (fun i L K a r => ∀ (c D : Nat), 0 ≤ K → c + insN i L ≤ 1099511627776 → D ≤ 1099511627776 → ((c + rnkN k i L : Nat) : Int) - D ≤ K → (D : Int) - ((c + rnkN k i L : Nat) : Int) ≤ K →
      ((c + rnkN k i r.1 : Nat) : Int) - D ≤ r.2.1 ∧ (D : Int) - ((c + rnkN k i r.1 : Nat) : Int) ≤ r.2.1) (fun _ _ _ _ _ _ _ _ h h' => ⟨h, h'⟩) (fun i l L K a r _ ih c D k0 hc hD h h' => ?_) (fun i l L K a r hs ih c D k0 hc hD h h' => ?_) i L K a
  · simp only [rnkN, insN] at hc h h' ⊢
    have hm := Nat.mul_le_mul_right (2 ^ i) (cntK_le k l)
    rw [cntK_perm (sortK_perm l)]
    generalize cntK k l * 2 ^ i = u at *
    generalize l.length * 2 ^ i = v at *
    have := ih (c + u) D k0 (by omega) hD (by omega) (by omega)
    omega
  · simp only [rnkN, insN] at hc h h' ⊢
    have hb := bitI_nat C a
    have hh := cntK_half (k := k) (sortK_sorted l) hb
    have hlen : (rst (sortK l)).length * 2 ^ i + (pick (bitI C a).toNat (sortK l)).length * 2 ^ (i + 1) = l.length * 2 ^ i := by
      rw [rst_len, pick_len, sortK_len]
      exact half_sum l.length i
    have hr1 := Nat.mul_le_mul_right (2 ^ i) (cntK_le k (rst (sortK l)))
    have hp1 := Nat.mul_le_mul_right (2 ^ (i + 1)) (cntK_le k (pick (bitI C a).toNat (sortK l)))
    have hrr := rnkN_le k L (i + 1)
    have hll := Nat.mul_le_mul_right (2 ^ i) (cntK_le k l)
    have hic := insN_addC (i + 1) L (pick (bitI C a).toNat (sortK l))
    have hrc := rnkN_addC k (i + 1) L (pick (bitI C a).toNat (sortK l))
    have hi2 : (0 : Int) ≤ 2 ^ i := Int.le_of_lt (Int.pow_pos (by decide))
    have hpw : ((2 ^ i : Nat) : Int) = (2 : Int) ^ i := by simp
    rw [cntK_perm (sortK_perm l)] at hh
    have e1 : cntK k (rst (sortK l)) * 2 ^ i + cntK k (pick (bitI C a).toNat (sortK l)) * 2 ^ (i + 1) ≤ cntK k l * 2 ^ i + 2 ^ i := by
      have := Nat.mul_le_mul_right (2 ^ i) hh.1
      rw [Nat.add_mul, Nat.add_mul, Nat.one_mul, Nat.mul_comm 2, Nat.mul_assoc] at this
      rw [Nat.pow_succ, Nat.mul_comm (2 ^ i) 2]
      exact this
    have e2 : cntK k l * 2 ^ i ≤ cntK k (rst (sortK l)) * 2 ^ i + cntK k (pick (bitI C a).toNat (sortK l)) * 2 ^ (i + 1) + 2 ^ i := by
      have := Nat.mul_le_mul_right (2 ^ i) hh.2
      rw [Nat.add_mul, Nat.add_mul, Nat.one_mul, Nat.mul_comm 2, Nat.mul_assoc] at this
      rw [Nat.pow_succ, Nat.mul_comm (2 ^ i) 2]
      exact this
    generalize rst (sortK l) = R at *
    generalize pick (bitI C a).toNat (sortK l) = P at *
    generalize cntK k R * 2 ^ i = u at *
    generalize R.length * 2 ^ i = v at *
    generalize cntK k l * 2 ^ i = x at *
    generalize l.length * 2 ^ i = y at *
    generalize cntK k P * 2 ^ (i + 1) = m at *
    generalize P.length * 2 ^ (i + 1) = n at *
    have g1 : ((c + u + rnkN k (i + 1) (addC L P) : Nat) : Int) - D ≤ aS K (2 ^ i) := aS_step k0 hi2 _ (by rw [hrc, ← hpw]; omega) (by rw [hrc]; omega)
    have g2 : (D : Int) - ((c + u + rnkN k (i + 1) (addC L P) : Nat) : Int) ≤ aS K (2 ^ i) := aS_step k0 hi2 _ (by rw [hrc, ← hpw]; omega) (by omega)
    have := ih (c + u) D (aS_bd _ _).1 (by rw [hic]; omega) hD g1 g2
    omega
theorem rep_rnkN (k : ByteArray) : ∀ (L : List (List ByteArray)) (n : Nat), L.length ≤ n → rnkN k 0 ((List.range n).map fun i => L.getD i []) = rnkN k 0 L := by
  intro L n h
  induction n with
  | zero =>
    have : L = [] := List.eq_nil_of_length_eq_zero (by omega)
    subst this
    rfl
  | succ n ih =>
    rw [List.range_succ, List.map_append, rnkN_app]
    by_cases hl : L.length ≤ n
    · rw [ih hl]
      simp [rnkN, cntK, List.getD, List.getElem?_eq_none hl]
    · have hn : L.length = n + 1 := by omega
      have e : (List.range n).map (fun i => L.getD i []) = L.take n := by
        refine ext_getD (by simp; omega) (fun i hi => ?_)
        rw [List.length_map, List.length_range] at hi
        simp [List.getD, List.getElem?_range hi, List.getElem?_take, hi]
      rw [e]
      simp only [List.map_cons, List.map_nil, List.length_take, rnkN]
      have h2 := rnkN_take (k := k) (L := L) (j := n) (by omega)
      rw [List.take_of_length_le (by omega)] at h2
      rw [h2, show min n L.length = n by omega]
      simp
theorem rnkN_map2 (k : ByteArray) (f g : Nat → List ByteArray) : ∀ n, rnkN k 0 ((List.range n).map fun i => f i ++ g i) = rnkN k 0 ((List.range n).map f) + rnkN k 0 ((List.range n).map g)
  | 0 => rfl
  | n + 1 => by
    rw [List.range_succ, List.map_append, List.map_append, List.map_append, rnkN_app, rnkN_app, rnkN_app, rnkN_map2 k f g n]
    simp only [List.map_cons, List.map_nil, List.length_map, List.length_range, rnkN, cntK_app, Nat.add_mul]
    omega
theorem rnkN_join (k : ByteArray) (A B : List (List ByteArray)) : rnkN k 0 (joinL A B) = rnkN k 0 A + rnkN k 0 B := by
  unfold joinL
  rw [rnkN_map2, rep_rnkN k A _ (by omega), rep_rnkN k B _ (by omega)]
theorem rnkN_all {k : ByteArray} : ∀ {L : List (List ByteArray)} {i : Nat}, (∀ l ∈ L, ∀ x ∈ l, lessK k x = false) → rnkN k i L = insN i L
  | [], _, _ => rfl
  | l :: L, i, h => by
    have h1 := rnkN_all (L := L) (i := i + 1) (fun m hm => h m (List.mem_cons_of_mem _ hm))
    have h2 := cntK_all (h l (List.mem_cons_self ..))
    simp only [rnkN, insN, h1, h2]
theorem rnkN_none {k : ByteArray} : ∀ {L : List (List ByteArray)} {i : Nat}, (∀ l ∈ L, ∀ x ∈ l, lessK k x = true) → rnkN k i L = 0
  | [], _, _ => rfl
  | l :: L, i, h => by
    have h1 := rnkN_none (L := L) (i := i + 1) (fun m hm => h m (List.mem_cons_of_mem _ hm))
    have h2 := cntK_none (h l (List.mem_cons_self ..))
    simp only [rnkN, h1, h2]
    omega
/-- A valid summary whose rank of k is as near to D as its slack says. -/
structure Kn (k : ByteArray) (t : RK) (D : Nat) : Prop where
  v : ValR t.S t.T t.K t.L
  d : (D : Int) ≤ t.T
  up : ((rnkN k 0 t.L : Nat) : Int) - D ≤ t.K
  dn : (D : Int) - ((rnkN k 0 t.L : Nat) : Int) ≤ t.K
theorem Kn.one {S : Int} {k x : ByteArray} {r : Int} (h0 : 2 ≤ S) (h1 : S ≤ 32) (h2 : S % 2 = 0) (hk : keyB (byt x) = true) (r0 : 1 ≤ r) (r1 : r ≤ 4294967295) : Kn k (oneR S x r) (if lessK k x = true then 0 else r.toNat) := by
  have hv := one_val (k := x) h0 h1 h2 hk r0 r1
  have hi := aloneL_ins x r.toNat (by omega) (by omega)
  have hall : ∀ l ∈ aloneL x r.toNat, ∀ y ∈ l, y = x := aloneL_key
  cases hl : lessK k x with
  | true =>
    have hn : rnkN k 0 (aloneL x r.toNat) = 0 := rnkN_none (fun l hl2 y hy => by rw [hall l hl2 y hy]; exact hl)
    refine ⟨hv, ?_, ?_, ?_⟩
    · show (((if true = true then 0 else r.toNat) : Nat) : Int) ≤ r
      simp; omega
    · show ((rnkN k 0 (aloneL x r.toNat) : Nat) : Int) - _ ≤ 0
      rw [hn]; simp
    · show _ - ((rnkN k 0 (aloneL x r.toNat) : Nat) : Int) ≤ 0
      rw [hn]; simp
  | false =>
    have hn : rnkN k 0 (aloneL x r.toNat) = r.toNat := by rw [rnkN_all (fun l hl2 y hy => by rw [hall l hl2 y hy]; exact hl), hi]
    refine ⟨hv, ?_, ?_, ?_⟩
    · show (((if false = true then 0 else r.toNat) : Nat) : Int) ≤ r
      simp; omega
    · show ((rnkN k 0 (aloneL x r.toNat) : Nat) : Int) - _ ≤ 0
      rw [hn]; simp
    · show _ - ((rnkN k 0 (aloneL x r.toNat) : Nat) : Int) ≤ 0
      rw [hn]; simp
theorem Kn.sum {k : ByteArray} {A B : RK} {D E : Nat} (hA : Kn k A D) (hB : Kn k B E) (Z : List Int) (a : Int) (hF : aF A.T B.T = false) : Kn k (sumK A B Z a).1 (D + E) ∧ (sumK A B Z a).1.T = A.T + B.T ∧ (sumK A B Z a).1.s = (A.s || B.s) ∧ (sumK A B Z a).1.S = A.S := by
  have hv := sumK_val (Z := Z) (a := a) hA.v hB.v
  obtain ⟨hT, hT2⟩ := aF_false hF hA.v.t0 hB.v.t0
  have hins := insN_join A.L B.L
  have hrk := rnkN_join k A.L B.L
  have sA := hA.v.sum
  have sB := hB.v.sum
  have d1 := hA.d
  have d2 := hB.d
  have u1 := hA.up
  have u2 := hB.up
  have n1 := hA.dn
  have n2 := hB.dn
  have hle := rnkN_le k (joinL A.L B.L) 0
  have hr := stl_rank (S := A.S) (C := Z) hA.v.s0 k 0 (joinL A.L B.L) (aS A.K B.K) a 0 (D + E) (aS_bd _ _).1 (by omega) (by omega) (aS_step hA.v.k0 hB.v.k0 _ (by omega) (by omega)) (aS_step hA.v.k0 hB.v.k0 _ (by omega) (by omega))
  unfold sumK at hv ⊢
  rw [if_neg (by rw [hF]; simp)] at hv ⊢
  refine ⟨⟨hv, ?_, ?_, ?_⟩, hT2, rfl, rfl⟩
  · dsimp only; rw [hT2]; omega
  · dsimp only; have := hr.1; rw [Nat.zero_add] at this; exact this
  · dsimp only; have := hr.2; rw [Nat.zero_add] at this; exact this
theorem Kn.new {S : Int} (h : szR S = true) (k : ByteArray) : Kn k ⟨S, 0, 0, [], false⟩ 0 := by
  have hs := (szR_iff S).1 h
  exact ⟨⟨hs.1, hs.2.1, hs.2.2, by dsimp only; omega, by dsimp only; omega, by dsimp only; omega, by dsimp only; omega, by simp, by simp, lastE_nil, rfl⟩, by dsimp only; omega, by simp [rnkN], by simp [rnkN]⟩
/-- No levels: whatever turns. -/
theorem RdB.nilL {B B' : Nat} {v : Value} {w : World} (h : RdB B [] v w) : RdB B' [] v w := by
  obtain ⟨us, h⟩ := h
  have h0 := h w (Nat.le_refl _) (fun _ _ _ => rfl)
  obtain rfl : us = [] := List.eq_nil_of_length_eq_zero h0.2.1
  refine ⟨[], fun w' _ _ => ⟨⟨fun u hu => (by cases hu), ?_⟩, rfl, fun j hj => (by cases hj)⟩⟩
  obtain ⟨-, a, cap, he, h1, h2, -⟩ := h0.1
  exact ⟨a, cap, he, h1, h2, fun h => (by cases h)⟩
/-- Five stores into block g. -/
def put5 (w : World) (g : Nat) (x0 x1 x2 x3 x4 : Value) : World := ((((w.setCell ⟨g, 0, none⟩ x0).setCell ⟨g, 1, none⟩ x1).setCell ⟨g, 2, none⟩ x2).setCell ⟨g, 3, none⟩ x3).setCell ⟨g, 4, none⟩ x4
theorem put5_heap (w : World) {g i : Nat} (h : i ≠ g) (x0 x1 x2 x3 x4 : Value) : (put5 w g x0 x1 x2 x3 x4).heap[i]? = w.heap[i]? := by
  unfold put5
  rw [Below.heap_setCell _ ⟨g, 4, none⟩ _ _ h, Below.heap_setCell _ ⟨g, 3, none⟩ _ _ h, Below.heap_setCell _ ⟨g, 2, none⟩ _ _ h, Below.heap_setCell _ ⟨g, 1, none⟩ _ _ h, Below.heap_setCell _ ⟨g, 0, none⟩ _ _ h]
theorem put5_size (w : World) (g : Nat) (x0 x1 x2 x3 x4 : Value) : (put5 w g x0 x1 x2 x3 x4).heap.size = w.heap.size := by unfold put5; simp
theorem put5_bel {W w : World} (h : Below W.heap.size W w) {g : Nat} (hg : W.heap.size ≤ g) (x0 x1 x2 x3 x4 : Value) : Below W.heap.size W (put5 w g x0 x1 x2 x3 x4) := bset (bset (bset (bset (bset h _ _ _ hg) _ _ _ hg) _ _ _ hg) _ _ _ hg) _ _ _ hg
theorem RdB.put5 {B b : Nat} {L : List (List ByteArray)} {v : Value} {w : World} (h : RdB B L v w) (hb : b < B) (x0 x1 x2 x3 x4 : Value) : RdB B L v (put5 w b x0 x1 x2 x3 x4) := ((((h.under hb).under hb).under hb).under hb).under hb
/-- The variable in block g holds summary c; its slice is v; whatever turns below block B. -/
def VtK (B g : Nat) (c : RK) (v : Value) (w : World) : Prop := RsS g c.S c.T c.K v c.s w ∧ RdB B c.L v w ∧ g < B
section
variable {B g : Nat} {c d : RK} {v u : Value} {w w' : World}
theorem VtK.lt (h : VtK B g c v w) : g < w.heap.size := h.1.lt
theorem VtK.go (h : VtK B g c v w) (hb : Below w.heap.size w w') : VtK B g c v w' := ⟨h.1.go hb, h.2.1.below hb, h.2.2⟩
theorem VtK.al (h : VtK B g c v w) (o : Obj) : VtK B g c v (w.alloc o) := h.go (b1 o)
theorem VtK.mono {B' : Nat} (h : VtK B g c v w) (hB : B' ≤ B) (hg : g < B') : VtK B' g c v w := ⟨h.1, h.2.1.mono hB, hg⟩
theorem VtK.nilL {B' : Nat} (h : VtK B g c v w) (hL : c.L = []) (hg : g < B') : VtK B' g c v w := ⟨h.1, by have h2 := h.2.1; rw [hL] at h2 ⊢; exact h2.nilL, hg⟩
theorem VtK.rd {a : Option Addr} {n cap : Nat} (h : VtK B g c (.slice a n cap) w) : RdR c (.agg #[.int .i64 c.S, .int .i64 c.T, .int .i64 c.K, .slice a n cap, .bool c.s]) w := ⟨a, n, cap, rfl, h.2.1.rd⟩
theorem VtK.rb {a : Option Addr} {n cap : Nat} (h : VtK B g c (.slice a n cap) w) : RbR B c (.agg #[.int .i64 c.S, .int .i64 c.T, .int .i64 c.K, .slice a n cap, .bool c.s]) w := ⟨a, n, cap, rfl, h.2.1⟩
theorem VtK.cells (h : VtK B g c v w) :
    (w.cell? ⟨g, 0, none⟩ = some (.int .i64 c.S) ∧ w.cell? ⟨g, 1, none⟩ = some (.int .i64 c.T) ∧ w.cell? ⟨g, 2, none⟩ = some (.int .i64 c.K) ∧ w.cell? ⟨g, 3, none⟩ = some v ∧ w.cell? ⟨g, 4, none⟩ = some (.bool c.s)) ∧ w.frozen? ⟨g, 0, none⟩ = false ∧ w.frozen? ⟨g, 1, none⟩ = false ∧ w.frozen? ⟨g, 2, none⟩ = false ∧ w.frozen? ⟨g, 3, none⟩ = false ∧ w.frozen? ⟨g, 4, none⟩ = false := h.1
theorem VtK.new (h : RdB B c.L v w) (hL : c.L = [] ∨ w.heap.size < B) : VtK (w.heap.size + 1) w.heap.size c v (w.alloc (.cells #[.int .i64 c.S, .int .i64 c.T, .int .i64 c.K, v, .bool c.s] 28)) := by
  refine ⟨RsS.new _ _ _ _ _ _ _, ?_, by omega⟩
  rcases hL with hL | hL
  · rw [hL] at h ⊢
    exact h.nilL.below (b1 _)
  · exact (h.below (b1 _)).mono (by omega)
/-- It is overwritten. -/
theorem VtK.put (h : VtK B g c v w) (hd : RdB B d.L u w) : VtK B g d u (put5 w g (.int .i64 d.S) (.int .i64 d.T) (.int .i64 d.K) u (.bool d.s)) := ⟨h.1.put5 _ _ _ _ _, hd.put5 h.2.2 _ _ _ _ _, h.2.2⟩
/-- Another variable is written. -/
theorem VtK.other {k : Nat} (h : VtK B g c v w) (hk : k < B) (hne : g ≠ k) (x0 x1 x2 x3 x4 : Value) : VtK B g c v (put5 w k x0 x1 x2 x3 x4) := ⟨h.1.keep (put5_heap w hne _ _ _ _ _), h.2.1.put5 hk _ _ _ _ _, h.2.2⟩
end
/-- One variable. -/
def VK1 (W : World) (B g : Nat) (c : RK) (v : Value) (w : World) : Prop := VtK B g c v w ∧ B ≤ w.heap.size ∧ W.heap.size ≤ g ∧ Below W.heap.size W w
section
variable {W : World} {B g : Nat} {c d : RK} {v u : Value} {w w' : World}
theorem VK1.go (h : VK1 W B g c v w) (hb : Below w.heap.size w w') : VK1 W B g c v w' := ⟨h.1.go hb, Nat.le_trans h.2.1 hb.size, h.2.2.1, bgo h.2.2.2 hb⟩
theorem VK1.al (h : VK1 W B g c v w) (o : Obj) : VK1 W B g c v (w.alloc o) := h.go (b1 o)
theorem VK1.bel (h : VK1 W B g c v w) : Below W.heap.size W w := h.2.2.2
theorem VK1.one (h : VK1 W B g c v w) : VtK B g c v w := h.1
theorem VK1.size (h : VK1 W B g c v w) : B ≤ w.heap.size := h.2.1
theorem VK1.put (h : VK1 W B g c v w) (hd : RdB B d.L u w) : VK1 W B g d u (put5 w g (.int .i64 d.S) (.int .i64 d.T) (.int .i64 d.K) u (.bool d.s)) :=
  ⟨h.1.put hd, by rw [put5_size]; exact h.2.1, h.2.2.1, put5_bel h.2.2.2 h.2.2.1 _ _ _ _ _⟩
theorem VK1.new (h : RdB B c.L v w) (hL : c.L = [] ∨ w.heap.size < B) (hb : Below W.heap.size W w) : VK1 W (w.heap.size + 1) w.heap.size c v (w.alloc (.cells #[.int .i64 c.S, .int .i64 c.T, .int .i64 c.K, v, .bool c.s] 28)) :=
  ⟨VtK.new h hL, by simp, hb.size, bal hb _⟩
end
/-- Two variables. -/
def VK2 (W : World) (B g : Nat) (c : RK) (v : Value) (k : Nat) (d : RK) (u : Value) (w : World) : Prop := VtK B g c v w ∧ VtK B k d u w ∧ g ≠ k ∧ B ≤ w.heap.size ∧ W.heap.size ≤ g ∧ W.heap.size ≤ k ∧ Below W.heap.size W w
section
variable {W : World} {B g k : Nat} {c d e : RK} {v u : Value} {w w' : World}
theorem VK2.go (h : VK2 W B g c v k d u w) (hb : Below w.heap.size w w') : VK2 W B g c v k d u w' := ⟨h.1.go hb, h.2.1.go hb, h.2.2.1, Nat.le_trans h.2.2.2.1 hb.size, h.2.2.2.2.1, h.2.2.2.2.2.1, bgo h.2.2.2.2.2.2 hb⟩
theorem VK2.al (h : VK2 W B g c v k d u w) (o : Obj) : VK2 W B g c v k d u (w.alloc o) := h.go (b1 o)
theorem VK2.bel (h : VK2 W B g c v k d u w) : Below W.heap.size W w := h.2.2.2.2.2.2
theorem VK2.size (h : VK2 W B g c v k d u w) : B ≤ w.heap.size := h.2.2.2.1
theorem VK2.one (h : VK2 W B g c v k d u w) : VtK B g c v w := h.1
theorem VK2.two (h : VK2 W B g c v k d u w) : VtK B k d u w := h.2.1
theorem VK2.put1 (h : VK2 W B g c v k d u w) {x : Value} (he : RdB B e.L x w) : VK2 W B g e x k d u (put5 w g (.int .i64 e.S) (.int .i64 e.T) (.int .i64 e.K) x (.bool e.s)) := by
  obtain ⟨h1, h2, h3, h4, h5, h6, h7⟩ := h
  exact ⟨h1.put he, h2.other h1.2.2 (Ne.symm h3) _ _ _ _ _, h3, by rw [put5_size]; exact h4, h5, h6, put5_bel h7 h5 _ _ _ _ _⟩
theorem VK2.put2 (h : VK2 W B g c v k d u w) {x : Value} (he : RdB B e.L x w) : VK2 W B g c v k e x (put5 w k (.int .i64 e.S) (.int .i64 e.T) (.int .i64 e.K) x (.bool e.s)) := by
  obtain ⟨h1, h2, h3, h4, h5, h6, h7⟩ := h
  exact ⟨h1.other h2.2.2 h3 _ _ _ _ _, h2.put he, h3, by rw [put5_size]; exact h4, h5, h6, put5_bel h7 h6 _ _ _ _ _⟩
theorem VK2.new {B' : Nat} (h : VtK B' g c v w) (hc : c.L = []) (hb : Below W.heap.size W w) (hw : Below w.heap.size w w') (ho : RdB B d.L u w') (hd : d.L = []) (hg : W.heap.size ≤ g) :
    VK2 W (w'.heap.size + 1) g c v w'.heap.size d u (w'.alloc (.cells #[.int .i64 d.S, .int .i64 d.T, .int .i64 d.K, u, .bool d.s] 28)) := by
  have hl := (h.go hw).lt
  exact ⟨((h.go hw).al _).nilL hc (by omega), VtK.new ho (.inl hd), by omega, by simp, hg, (bgo hb hw).size, bal (bgo hb hw) _⟩
end
/-- A struct of two cells: an item. -/
def Two (g : Nat) (K : ByteArray) (y : Int) (w : World) : Prop := w.cell? ⟨g, 0, none⟩ = some (.string K) ∧ w.cell? ⟨g, 1, none⟩ = some (.int .i64 y) ∧ g < w.heap.size
theorem Two.new (w : World) (K : ByteArray) (y : Int) (t : TypeId) : Two w.heap.size K y (w.alloc (.cells #[.string K, .int .i64 y] t)) := ⟨by go_simp, by go_simp, by simp⟩
theorem Two.below {g : Nat} {K : ByteArray} {y : Int} {w w' : World} (h : Two g K y w) (hb : Below w.heap.size w w') : Two g K y w' :=
  ⟨(hb.cell (p := ⟨g, 0, none⟩) h.2.2).trans h.1, (hb.cell (p := ⟨g, 1, none⟩) h.2.2).trans h.2.1, Nat.lt_of_lt_of_le h.2.2 hb.size⟩
/-- The item in block i survives that a variable is written. -/
theorem Two.other {i : Nat} {K : ByteArray} {y : Int} {w : World} (h : Two i K y w) {g : Nat} (x0 x1 x2 x3 x4 : Value) (hne : i ≠ g) : Two i K y (put5 w g x0 x1 x2 x3 x4) := by
  have hb := put5_heap w hne x0 x1 x2 x3 x4
  exact ⟨(World.cell?_of_block (w := w) (a := ⟨i, 0, none⟩) hb).trans h.1, (World.cell?_of_block (w := w) (a := ⟨i, 1, none⟩) hb).trans h.2.1, by rw [put5_size]; exact h.2.2⟩
theorem lessBA : lessK ⟨#[98]⟩ ⟨#[97]⟩ = false := by
  unfold lessK
  rw [Lib.toList_data, Lib.toList_data]
  rfl
theorem sort_one (x : ByteArray) : sortK [x] = [x] := rfl
theorem sort_ab : sortK [⟨#[97]⟩, ⟨#[98]⟩] = [⟨#[97]⟩, ⟨#[98]⟩] := by
  have e : sortK [⟨#[97]⟩, ⟨#[98]⟩] = sinkK [⟨#[97]⟩, ⟨#[98]⟩] 1 := rfl
  rw [e]
  unfold sinkK
  exact if_neg (by show ¬ lessK ⟨#[98]⟩ ⟨#[97]⟩ = true; rw [lessBA]; simp)
theorem iR1 : itemE (byt ⟨#[97]⟩) 1 = 0 := by decide +kernel
theorem iR2 : itemE (byt ⟨#[98]⟩) 1 = 0 := by decide +kernel
theorem kA : keyB (byt ⟨#[97]⟩) = true := by decide +kernel
theorem vR0 : ValR 2 0 0 [] := (Kn.new (S := 2) (by decide) ⟨#[]⟩).v
theorem insR_at {t : RK} {k : ByteArray} {x : Int} {Z : List Int} {a : Int} (h : ValR t.S t.T t.K t.L) (hi : itemE (byt k) x = 0) (ha : posR a = true) : insR t k x Z a = sumK t (oneR t.S k x) Z a ∧ insRE t k x a = 0 := by
  constructor
  · unfold insR; rw [if_pos (valR_of h), if_pos ⟨hi, ha⟩]
  · unfold insRE; rw [if_pos (valR_of h), if_pos ⟨hi, ha⟩]
theorem Kn.ins {k x : ByteArray} {t : RK} {D : Nat} {r : Int} (h : Kn k t D) (hk : keyB (byt x) = true) (r0 : 1 ≤ r) (r1 : r ≤ 4294967295) (hT : t.T + r ≤ 1099511627776) (Z : List Int) (a : Int) (ha : posR a = true) :
    Kn k (insR t x r Z a).1 (D + (if lessK k x = true then 0 else r.toNat)) ∧ (insR t x r Z a).1.T = t.T + r ∧ (insR t x r Z a).1.s = t.s ∧ (insR t x r Z a).1.S = t.S ∧ insRE t x r a = 0 := by
  have hi : itemE (byt x) r = 0 := by
    unfold itemE
    rw [hk, if_neg (by simp), if_neg (by omega)]
  obtain ⟨h1, h2⟩ := insR_at (Z := Z) h.v hi ha
  rw [h1]
  have hone := Kn.one (k := k) h.v.s0 h.v.s1 h.v.ev hk r0 r1
  have hF : aF t.T (oneR t.S x r).T = false := by
    have := h.v.t0
    unfold aF satF nat0
    rw [decide_eq_false_iff_not]
    show ¬ (1099511627776 : Int) < max t.T 0 + max r 0
    omega
  obtain ⟨h3, h4, h5, h6⟩ := h.sum hone Z a hF
  exact ⟨h3, h4, by rw [h5]; show (t.s || false) = t.s; simp, h6, h2⟩
theorem kR1 : insR ⟨2, 0, 0, [], false⟩ ⟨#[97]⟩ 1 [] 0 = (⟨2, 1, 0, [[⟨#[97]⟩]], false⟩, 0) := by
  rw [(insR_at vR0 iR1 (by decide)).1]
  have hj : joinL [] (aloneL ⟨#[97]⟩ 1) = [[⟨#[97]⟩]] := by kernel_rfl
  have hs : stl 2 [] 0 [[⟨#[97]⟩]] 0 0 = ([[⟨#[97]⟩]], 0, 0) := by
    rw [stl_low _ _ _ _ _ (by simp), stl_nil]
    rfl
  unfold sumK oneR
  dsimp only
  rw [if_neg (by decide), show aS 0 0 = 0 by decide, show Int.toNat 1 = 1 from rfl, hj, hs]
  rfl
theorem kR2 : insR ⟨2, 1, 0, [[⟨#[97]⟩]], false⟩ ⟨#[98]⟩ 1 [] 0 = (⟨2, 2, 1, [[], [⟨#[97]⟩]], false⟩, 1) := by
  have h1 := (Kn.new (S := 2) (by decide) ⟨#[]⟩).ins (x := ⟨#[97]⟩) kA (r := 1) (by decide) (by decide) (by decide) [] 0 (by decide)
  rw [kR1] at h1
  rw [(insR_at h1.1.v iR2 (by decide)).1]
  have hj : joinL [[⟨#[97]⟩]] (aloneL ⟨#[98]⟩ 1) = [[⟨#[97]⟩, ⟨#[98]⟩]] := by kernel_rfl
  have hs : stl 2 [] 0 [[⟨#[97]⟩, ⟨#[98]⟩]] 0 0 = ([[], [⟨#[97]⟩]], 1, 1) := by
    rw [stl_full _ _ _ _ _ (by simp) (by decide), sort_ab, show addC [] (pick (bitI [] 0).toNat [⟨#[97]⟩, ⟨#[98]⟩]) = [[⟨#[97]⟩]] from rfl, stl_low _ _ _ _ _ (by simp), stl_nil, sort_one, show rst [(⟨#[97]⟩ : ByteArray), ⟨#[98]⟩] = [] from rfl]
    rfl
  unfold sumK oneR
  dsimp only
  rw [if_neg (by decide), show aS 0 0 = 0 by decide, show Int.toNat 1 = 1 from rfl, hj, hs]
  rfl
theorem kOk0 : LOk [] := ⟨by simp, by simp⟩
theorem lR (t : RK) (h : ValR t.S t.T t.K t.L) : LOk t.L := h.lok
theorem vR1 : ValR 2 1 0 [[⟨#[97]⟩]] := by
  have h1 := (Kn.new (S := 2) (by decide) ⟨#[]⟩).ins (x := ⟨#[97]⟩) kA (r := 1) (by decide) (by decide) (by decide) [] 0 (by decide)
  rw [kR1] at h1
  exact h1.1.v
theorem vR2 : ValR 2 2 1 [[], [⟨#[97]⟩]] := by
  have h1 := (Kn.new (S := 2) (by decide) ⟨#[]⟩).ins (x := ⟨#[97]⟩) kA (r := 1) (by decide) (by decide) (by decide) [] 0 (by decide)
  rw [kR1] at h1
  have h2 := h1.1.ins (x := ⟨#[98]⟩) (by decide +kernel) (r := 1) (by decide) (by decide) (by decide) [] 0 (by decide)
  rw [kR2] at h2
  exact h2.1.v
theorem nilZ (w : World) : Rd [] (.slice none 0 0) w := (Own.empty 0 w).rd
theorem cR0 (w : World) : Calls Tryd.prog 17 #[.int .i64 2] w fun e w' => ∃ a n c, e = .returned (.tuple #[.agg #[.int .i64 2, .int .i64 0, .int .i64 0, .slice a n c, .bool false], .int .i64 0]) ∧ RdB w.heap.size [] (.slice a n c) w' ∧ Below w.heap.size w w' :=
  (pnewR_any 2 w).mono fun e w' ⟨v, h1, ⟨a, n, c, h2, h3⟩, h4⟩ => ⟨a, n, c, by rw [h1, h2]; rfl, h3, h4⟩
theorem cR (t d : RK) (k : ByteArray) (a b : Int) (hd : insR t k 1 [] a = (d, b)) (he : insRE t k 1 a = 0) (hv : LOk t.L) (hk : k.size ≤ maxLen) (p : Option Addr) (n c : Nat) (w : World) (h : RdL t.L (.slice p n c) w) (hT : TabP w) :
    Calls Tryd.prog 15 #[.agg #[.int .i64 t.S, .int .i64 t.T, .int .i64 t.K, .slice p n c, .bool t.s], .agg #[.string k, .int .i64 1], .slice none 0 0, .int .i64 a] w fun e w' =>
      ∃ p n c, e = .returned (.tuple #[.agg #[.int .i64 d.S, .int .i64 d.T, .int .i64 d.K, .slice p n c, .bool d.s], .int .i64 b, .int .i64 0]) ∧ RdB w.heap.size d.L (.slice p n c) w' ∧ Below w.heap.size w w' :=
  (pinsR_any t k 1 _ _ [] a w ⟨p, n, c, rfl, h⟩ hv (nilZ w) (by decide) (by decide) hk hT).mono fun e w' ⟨v, h1, ⟨p, n, c, h2, h3⟩, h4⟩ => ⟨p, n, c, by rw [hd] at h1 h2; rw [h1, h2, he], by rw [hd] at h3; exact h3, h4⟩
set_option maxRecDepth 100000 in
set_option maxHeartbeats 2000000 in
theorem knownR_any (w : World) (hT : TabP w) : Calls Tryd.prog 11 #[] w fun e w' => e = .returned (.bool true) ∧ Below w.heap.size w w' := by
  have i1 := (insR_at (t := ⟨2, 0, 0, [], false⟩) (Z := []) (a := 0) vR0 iR1 (by decide)).2
  have i2 := (insR_at (t := ⟨2, 1, 0, [[⟨#[97]⟩]], false⟩) (Z := []) (a := 0) vR1 iR2 (by decide)).2
  have h1 := Lib.hid (cR ⟨2, 0, 0, [], false⟩ _ ⟨#[97]⟩ 0 _ kR1 i1 vR0.lok (by decide))
  have h2 := Lib.hid (cR ⟨2, 1, 0, [[⟨#[97]⟩]], false⟩ _ ⟨#[98]⟩ 0 _ kR2 i2 vR1.lok (by decide))
  have h3 := Lib.hid (fun (p : Option Addr) (n c : Nat) (w : World) (h : RdL [[], [⟨#[97]⟩]] (.slice p n c) w) => (prank_any ⟨2, 2, 1, [[], [⟨#[97]⟩]], false⟩ _ ⟨#[97]⟩ w ⟨p, n, c, rfl, h⟩ vR2.lok (by decide)).mono fun e w' (h : e = .returned (.tuple #[.int .i64 (rkR ⟨2, 2, 1, [[], [⟨#[97]⟩]], false⟩ ⟨#[97]⟩), .int .i64 (rkRE ⟨2, 2, 1, [[], [⟨#[97]⟩]], false⟩ ⟨#[97]⟩)]) ∧ Below w.heap.size w w') => (show e = .returned (.tuple #[.int .i64 2, .int .i64 0]) ∧ Below w.heap.size w w' from ⟨by
    rw [h.1]
    have e1 : rkR ⟨2, 2, 1, [[], [⟨#[97]⟩]], false⟩ ⟨#[97]⟩ = 2 := by
      unfold rkR
      rw [if_pos (valR_of vR2), if_pos kA]
      have : lessK ⟨#[97]⟩ ⟨#[97]⟩ = false := lessK_irr _
      simp [rnkN, cntK, this]
    have e2 : rkRE ⟨2, 2, 1, [[], [⟨#[97]⟩]], false⟩ ⟨#[97]⟩ = 0 := by
      unfold rkRE
      rw [if_pos (valR_of vR2), if_pos kA]
    rw [e1, e2], h.2⟩))
  clear i1 i2
  have HT := Lib.hid hT
  clear hT
  go_enter Tryd.func11, Tryd.ntmps11
  go_wp2_with (first
    | (go_at_call 17; refine (cR0 _).mono ?_; rintro e w2 ⟨a2, n2, k2, rfl, ho2, hb2⟩; have O2 := Lib.hid (ho2.rd.below (b1 (.cells #[.int .i64 2, .int .i64 0, .int .i64 0, .slice a2 n2 k2, .bool false] 28))); have B2 := Lib.hid (bal hb2 (.cells #[.int .i64 2, .int .i64 0, .int .i64 0, .slice a2 n2 k2, .bool false] 28)); clear ho2 hb2)
    | (go_at_call 15; refine (h1.out _ _ _ _ O2.out (HT.out.below B2.out)).mono ?_; rintro e w3 ⟨a3, n3, k3, rfl, ho3, hb3⟩; have O3 := Lib.hid (ho3.rd.below (b1 (.cells #[.int .i64 2, .int .i64 1, .int .i64 0, .slice a3 n3 k3, .bool false] 28))); have B3 := Lib.hid (bal (bgo B2.out hb3) (.cells #[.int .i64 2, .int .i64 1, .int .i64 0, .slice a3 n3 k3, .bool false] 28)); clear ho3 hb3 h1 O2 B2)
    | (go_at_call 15; refine (h2.out _ _ _ _ O3.out (HT.out.below B3.out)).mono ?_; rintro e w4 ⟨a4, n4, k4, rfl, ho4, hb4⟩; have O4 := Lib.hid (ho4.rd.below (b1 (.cells #[.int .i64 2, .int .i64 2, .int .i64 1, .slice a4 n4 k4, .bool false] 28))); have B4 := Lib.hid (bal (bgo B3.out hb4) (.cells #[.int .i64 2, .int .i64 2, .int .i64 1, .slice a4 n4 k4, .bool false] 28)); have T4 := Lib.hid (RsS.new 2 2 1 (.slice a4 n4 k4) false 28 w4); clear ho4 hb4 h2 O3 B3)
    | (go_at_call 24; refine (h3.out _ _ _ _ O4.out).mono ?_; rintro e w5 ⟨rfl, hb5⟩; have B5 := Lib.hid (bgo B4.out hb5); have T5 := Lib.hid (T4.out.go hb5); have O5 := O4.out.below hb5; obtain ⟨b5, o5, u5, m5, c5, rfl, rfl, hl5, hx5, -, rfl⟩ := O5.at_ (k := 0) (by simp); obtain ⟨b6, o6, u6, m6, c6, he6, -, hl6, hx6, -, rfl⟩ := O5.at_ (k := 1) (by simp); cases he6; obtain ⟨⟨t0, t1, t2, t3, t4⟩, -⟩ := T5.out; (have t3' : w5.cell? ⟨w4.heap.size, 3, none⟩ = some (.slice (some ⟨b5, o5, none⟩) 2 k4) := t3); (have hy5 : w5.cell? ⟨b5, o5, none⟩ = some (.slice u5 0 c5) := hx5); (have hy6 : w5.cell? ⟨b5, o5 + 1, none⟩ = some (.slice u6 1 c6) := hx6); clear hb5 h3 O4 B4 T4 O5 t3 hx5 hx6))
  go_ret
  exact ⟨rfl, B5.out⟩
end Go.Proofs.YtdifilhfmbpalaaDoor
