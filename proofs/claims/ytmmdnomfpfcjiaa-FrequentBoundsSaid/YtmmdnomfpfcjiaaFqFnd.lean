/- The contracts of the library's binary search in ascending entries, and of frequent.Find. -/
import Derived.Test.YtmmdnomfpfcjiaaFqMg
import Derived.Test.YtmmdnomfpfcjiaaFqIns
import Derived.Shelf.Abstract
namespace Go.Proofs.Ytmmdnomfpfcjiaa
open Go.RowKit
set_option linter.unusedVariables false
set_option linter.unusedSimpArgs false
theorem enters_cmpKey : ∀ args w, (callFunc 52 args).run Try.prog w = .ok (.enter 52 args) w := Go.Proofs.enters_of Try.func52 (by kernel_rfl) rfl
/-- All below i come before k, none from j on does. -/
def Cut (L : List Ent) (k : ByteArray) (i j : Nat) : Prop := i ≤ j ∧ j ≤ L.length ∧ (∀ q, q < i → lessK (L.getD q Ent.z).k k = true) ∧ ∀ q, j ≤ q → q < L.length → lessK (L.getD q Ent.z).k k = false
theorem asc_le {L : List Ent} (h : AscK L) {p q : Nat} (hpq : p ≤ q) (hq : q < L.length) {k : ByteArray} (hk : lessK (L.getD q Ent.z).k k = true) : lessK (L.getD p Ent.z).k k = true := by
  by_cases he : p = q
  · subst he; exact hk
  · have h1 : lessK (L.getD p Ent.z).k (L.getD q Ent.z).k = true := by
      rw [show L.getD p Ent.z = L[p]'(by omega) by simp [List.getD, show p < L.length by omega], show L.getD q Ent.z = L[q] by simp [List.getD, hq]]
      exact List.pairwise_iff_getElem.1 h p q (by omega) hq (by omega)
    exact lessK_trans h1 hk
theorem Cut.up {L : List Ent} {k : ByteArray} {i j h : Nat} (ha : AscK L) (hc : Cut L k i j) (h1 : i ≤ h) (h2 : h < j) (hl : lessK (L.getD h Ent.z).k k = true) : Cut L k (h + 1) j :=
  ⟨by omega, hc.2.1, fun q hq => asc_le ha (show q ≤ h by omega) (by have := hc.2.1; omega) hl, hc.2.2.2⟩
theorem Cut.down {L : List Ent} {k : ByteArray} {i j h : Nat} (ha : AscK L) (hc : Cut L k i j) (h1 : i ≤ h) (h2 : h < j) (hl : lessK (L.getD h Ent.z).k k = false) : Cut L k i h :=
  ⟨h1, by have := hc.2.1; omega, hc.2.2.1, fun q hq hql => by
    cases hx : lessK (L.getD q Ent.z).k k with
    | false => rfl
    | true => have := asc_le ha hq hql hx; rw [hl] at this; cases this⟩
theorem Cut.has {L : List Ent} {k : ByteArray} {i : Nat} (ha : AscK L) (hc : Cut L k i i) : (i < L.length → hasK L k = sameK (L.getD i Ent.z).k k) ∧ (¬ i < L.length → hasK L k = false) := by
  have key : ∀ q, q < L.length → sameK (L.getD q Ent.z).k k = true → q = i := by
    intro q hq hs
    have he := (sameK_iff _ _).1 hs
    by_cases h1 : q < i
    · have := hc.2.2.1 q h1
      rw [he, lessK_irr] at this
      cases this
    · by_cases h2 : q = i
      · exact h2
      · have h3 : lessK (L.getD i Ent.z).k (L.getD q Ent.z).k = true := by
          rw [show L.getD i Ent.z = L[i]'(by omega) by simp [List.getD, show i < L.length by omega], show L.getD q Ent.z = L[q] by simp [List.getD, hq]]
          exact List.pairwise_iff_getElem.1 ha i q (by omega) hq (by omega)
        have h4 := hc.2.2.2 i (Nat.le_refl _) (by omega)
        rw [← he, h3] at h4
        cases h4
  constructor
  · intro hi
    cases hs : sameK (L.getD i Ent.z).k k with
    | true =>
      unfold hasK
      rw [List.any_eq_true]
      refine ⟨L[i], List.getElem_mem hi, ?_⟩
      rw [show L.getD i Ent.z = L[i] by simp [List.getD, hi]] at hs
      exact hs
    | false =>
      cases hh : hasK L k with
      | false => rfl
      | true =>
        rcases findI_cases L k with ⟨_, q, h1, _, h3⟩ | ⟨h, _⟩
        · have := key q h1 h3
          subst this
          rw [hs] at h3; cases h3
        · rw [hh] at h; cases h
  · intro hi
    cases hh : hasK L k with
    | false => rfl
    | true =>
      rcases findI_cases L k with ⟨_, q, h1, _, h3⟩ | ⟨h, _⟩
      · have := key q h1 h3
        omega
      · rw [hh] at h; cases h
theorem fin_of {L : List Ent} {k : ByteArray} {p : Nat} {b : Bool} {w w' : World} (h : hasK L k = b) (hp : b = true → p < L.length ∧ sameK (L.getD p Ent.z).k k = true) (hb : Below w.heap.size w w') :
    ∃ q : Nat, Ending.returned (.tuple #[.int .i64 (p : Int), .bool b]) = .returned (.tuple #[.int .i64 (q : Int), .bool (hasK L k)]) ∧ (hasK L k = true → q < L.length ∧ sameK (L.getD q Ent.z).k k = true) ∧ Below w.heap.size w w' := by
  subst h
  exact ⟨p, rfl, hp, hb⟩
set_option maxRecDepth 100000 in
set_option maxHeartbeats 2000000 in
theorem bsearch_any (L : List Ent) (k : ByteArray) (v : Value) (w : World) (hv : RdE L v w) (ha : AscK L) (hn : L.length ≤ 1000) :
    Calls Try.prog 51 #[v, .string k, .func (.func 52) #[] #[]] w fun e w' =>
      ∃ p : Nat, e = .returned (.tuple #[.int .i64 p, .bool (hasK L k)]) ∧ (hasK L k = true → p < L.length ∧ sameK (L.getD p Ent.z).k k = true) ∧ Below w.heap.size w w' := by
  have he := enters_cmpKey
  have HR := Lib.hid hv
  obtain ⟨a, cap, rfl⟩ := hv.shape
  clear hv
  have HA := Lib.hid ha
  have HN := Lib.hid hn
  have HC0 : Hid (Cut L k 0 L.length) := Lib.hid ⟨Nat.zero_le _, Nat.le_refl _, fun q hq => by omega, fun q h1 h2 => by omega⟩
  go_enter Try.func51, Try.ntmps51
  go_wp2
  go_loopw [9, 10, 11] (fun i j _ wr => ∃ p q : Nat, i = .int .i64 (p : Int) ∧ j = .int .i64 (q : Int) ∧ Hid (Cut L k p q) ∧ Hid (Below w.heap.size w wr)) (fun i j _ _ => (intOf j).toNat - (intOf i).toNat)
  case atStart => exact ⟨0, L.length, rfl, rfl, HC0, Lib.hid (Below.refl _ _)⟩
  case round =>
    clear HC0
    obtain ⟨p, q, rfl, rfl, HC, HB⟩ := hrel
    have hpq := HC.out.1
    have hql := HC.out.2.1
    have hnn := HN.out
    by_cases hlt : p < q
    · have hlt2 : (p : Int) < (q : Int) := by omega
      obtain ⟨h, hh⟩ : ∃ h : Nat, h = (p + q) / 2 := ⟨_, rfl⟩
      have hh1 : p ≤ h := by omega
      have hh2 : h < q := by omega
      have hw1 : IntKind.u64.wrap ((p : Int) + (q : Int)) = (p : Int) + (q : Int) := by rw [IntKind.wrap_u64]; omega
      have hw2 : wrap64 ((p : Int) + (q : Int)) = (p : Int) + (q : Int) := by unfold wrap64; omega
      have hw3 : ((p : Int) + (q : Int)) / 2 = (h : Int) := by omega
      have hw4 : IntKind.i64.wrap (h : Int) = (h : Int) := by rw [IntKind.wrap_i64]; omega
      have hw5 : wrap64 (h : Int) = (h : Int) := by unfold wrap64; omega
      have hw6 : IntKind.u64.wrap (h : Int) = (h : Int) := by rw [IntKind.wrap_u64]; omega
      have hhl : (h : Int) < (L.length : Int) := by omega
      have hh0 : (0 : Int) ≤ (h : Int) := by omega
      obtain ⟨-, a1, cap1, he1, -, -, hc1⟩ := HR.out.below HB.out
      simp only [Value.slice.injEq, true_and] at he1
      obtain ⟨rfl, rfl⟩ := he1
      obtain ⟨b, off, rfl, hb, hcell⟩ := hc1 (by omega)
      obtain ⟨c0, c1, c2⟩ := hcell h (by omega)
      clear hcell hc1 hb
      have HUP := Lib.hid (fun hl => HC.out.up HA.out hh1 hh2 hl)
      have HDN := Lib.hid (fun hl => HC.out.down HA.out hh1 hh2 hl)
      generalize L.getD h Ent.z = X at *
      have hck := cmpK_lt X.k k
      have hcb := cmpK_bd X.k k
      have HCM := Lib.hid (fun w => cmpKey_any X k w)
      generalize cmpK X.k k = c at *
      clear hh
      by_cases hc : c < 0
      · have H1 := Lib.hid (HUP.out (hck.1 hc))
        obtain rfl : c = -1 := by omega
        clear hck hcb hc
        go_wp2_with (go_at_call 52; refine (HCM.out _).mono ?_; rintro e w2 ⟨rfl, hb2⟩; have B2 := Lib.hid (bgo HB.out hb2); clear hb2)
        exact ⟨⟨h + 1, q, by go_num, rfl, H1, B2⟩, by simp [intOf]; omega⟩
      · have H1 := Lib.hid (HDN.out (by cases hx : lessK X.k k with | false => rfl | true => exact absurd (hck.2 hx) hc))
        have hc2 : c = 0 ∨ c = 1 := by omega
        clear hck hcb hc
        rcases hc2 with rfl | rfl
        all_goals
          go_wp2_with (go_at_call 52; refine (HCM.out _).mono ?_; rintro e w2 ⟨rfl, hb2⟩; have B2 := Lib.hid (bgo HB.out hb2); clear hb2)
          exact ⟨⟨p, h, rfl, by go_num, H1, B2⟩, by simp [intOf]; omega⟩
    · obtain rfl : p = q := by omega
      obtain ⟨k1, k2⟩ := HC.out.has HA.out
      have hnl : ¬ (p : Int) < (p : Int) := by omega
      by_cases hl : p < L.length
      · have hl2 : (p : Int) < (L.length : Int) := by omega
        have k3 := k1 hl
        obtain ⟨-, a1, cap1, he1, -, -, hc1⟩ := HR.out.below HB.out
        simp only [Value.slice.injEq, true_and] at he1
        obtain ⟨rfl, rfl⟩ := he1
        obtain ⟨b, off, rfl, hb, hcell⟩ := hc1 (by omega)
        obtain ⟨c0, c1, c2⟩ := hcell p hl
        clear hcell hc1 hb k1 k2
        generalize hX : L.getD p Ent.z = X at *
        have HX := Lib.hid hX
        clear hX
        have hck := cmpK_eq X.k k
        have hcb := cmpK_bd X.k k
        have HCM := Lib.hid (fun w => cmpKey_any X k w)
        generalize cmpK X.k k = c at *
        cases hs : sameK X.k k with
        | true =>
          obtain rfl : c = 0 := hck.2 ((sameK_iff _ _).1 hs)
          have HT := Lib.hid (k3.trans hs)
          have HS := Lib.hid hs
          clear hck hcb hs k3
          go_wp2_with (go_at_call 52; refine (HCM.out _).mono ?_; rintro e w2 ⟨rfl, hb2⟩; have B2 := Lib.hid (bgo HB.out hb2); clear hb2)
          go_ret2
          exact fin_of HT.out (fun _ => ⟨hl, by rw [HX.out]; exact HS.out⟩) B2.out
        | false =>
          have hc0 : c ≠ 0 := fun e => by rw [(sameK_iff _ _).2 (hck.1 e)] at hs; cases hs
          have hc2 : c = -1 ∨ c = 1 := by omega
          have HT := Lib.hid (k3.trans hs)
          clear hck hcb hs hc0 k3
          rcases hc2 with rfl | rfl
          all_goals
            go_wp2_with (go_at_call 52; refine (HCM.out _).mono ?_; rintro e w2 ⟨rfl, hb2⟩; have B2 := Lib.hid (bgo HB.out hb2); clear hb2)
            go_ret2
            exact fin_of HT.out (fun h => by cases h) B2.out
      · have hl2 : ¬ (p : Int) < (L.length : Int) := by omega
        have HT := Lib.hid (k2 hl)
        clear k1 k2
        go_wp2
        go_ret2
        exact fin_of HT.out (fun h => by cases h) HB.out
/-- An entry as a variable of the call: block g. -/
def EnS (g : Nat) (k : ByteArray) (c e : Int) (w : World) : Prop :=
  (w.cell? ⟨g, 0, none⟩ = some (.string k) ∧ w.cell? ⟨g, 1, none⟩ = some (.int .i64 c) ∧ w.cell? ⟨g, 2, none⟩ = some (.int .i64 e)) ∧ w.frozen? ⟨g, 0, none⟩ = false ∧ w.frozen? ⟨g, 1, none⟩ = false ∧ w.frozen? ⟨g, 2, none⟩ = false
theorem EnS.keep {g : Nat} {k : ByteArray} {c e : Int} {w w' : World} (h : EnS g k c e w) (hb : w'.heap[g]? = w.heap[g]?) : EnS g k c e w' := by
  obtain ⟨⟨h0, h1, h2⟩, f0, f1, f2⟩ := h
  have hc : ∀ o, w'.cell? ⟨g, o, none⟩ = w.cell? ⟨g, o, none⟩ := fun o => World.cell?_of_block (w := w) (a := ⟨g, o, none⟩) hb
  have hf : ∀ o, w'.frozen? ⟨g, o, none⟩ = w.frozen? ⟨g, o, none⟩ := fun o => World.frozen?_of_block (w := w) (a := ⟨g, o, none⟩) hb
  exact ⟨⟨(hc _).trans h0, (hc _).trans h1, (hc _).trans h2⟩, (hf _).trans f0, (hf _).trans f1, (hf _).trans f2⟩
theorem EnS.new (k : ByteArray) (c e : Int) (t : TypeId) (w : World) : EnS w.heap.size k c e (w.alloc (.cells #[.string k, .int .i64 c, .int .i64 e] t)) := ⟨⟨by go_simp, by go_simp, by go_simp⟩, by go_simp, by go_simp, by go_simp⟩
theorem EnS.second (k : ByteArray) (c e : Int) (o : Obj) (t : TypeId) (w : World) : EnS (w.heap.size + 1) k c e ((w.alloc o).alloc (.cells #[.string k, .int .i64 c, .int .i64 e] t)) := by
  have h := EnS.new k c e t (w.alloc o)
  simpa using h
theorem EnS.lt {g : Nat} {k : ByteArray} {c e : Int} {w : World} (h : EnS g k c e w) : g < w.heap.size := by
  have h0 := h.1.1
  unfold World.cell? at h0
  cases hb : w.heap[g]? with
  | none => simp [hb] at h0
  | some o => exact (Array.getElem?_eq_some_iff.1 hb).1
theorem EnS.go {g : Nat} {k : ByteArray} {c e : Int} {w w' : World} (h : EnS g k c e w) (hb : Below w.heap.size w w') : EnS g k c e w' := h.keep (hb.block _ h.lt)
/-- The memory of Find. -/
def FnQ (W : World) (t : FQ) (v : Value) (w : World) : Prop := FqS W.heap.size t.S t.T t.K v t.s w ∧ Below W.heap.size W w
theorem EnS.set {g : Nat} {k : ByteArray} {c e : Int} {w : World} (h : EnS g k c e w) (k' : ByteArray) (c' e' : Int) : EnS g k' c' e' (((w.setCell ⟨g, 0, none⟩ (.string k')).setCell ⟨g, 1, none⟩ (.int .i64 c')).setCell ⟨g, 2, none⟩ (.int .i64 e')) := by
  obtain ⟨⟨h0, h1, h2⟩, f0, f1, f2⟩ := h
  exact ⟨⟨by go_simp, by go_simp, by go_simp⟩, by go_simp, by go_simp, by go_simp⟩
set_option maxRecDepth 100000 in
set_option maxHeartbeats 2000000 in
theorem pfindQ_any (t : FQ) (k : ByteArray) (v : Value) (w : World) (hv : RdQ t v w) (ht : ValQ t.S t.T t.K t.L) (hk : keyB (byt k) = true) (hks : k.size ≤ maxLen) :
    Calls Try.prog 26 #[v, .string k] w fun e w' => e = .returned (.tuple #[.agg #[.string k, .int .i64 (cntK t.L k), .int .i64 t.K], .bool (hasK t.L k), .int .i64 0]) ∧ Below w.heap.size w w' := by
  obtain ⟨S, T, K, L, s⟩ := t
  obtain ⟨aA, nA, cA, rfl, hr⟩ := hv
  dsimp only at hr ht ⊢
  obtain ⟨a', cap', he⟩ := hr.shape
  simp only [Value.slice.injEq] at he
  obtain ⟨rfl, rfl, rfl⟩ := he
  have HR := Lib.hid hr
  have hsm := ht.small
  have HV := Lib.hid (fun (w' : World) (hb : Below w.heap.size w w') => pvalQ_any S T K L s aA L.length cA w' (hr.below hb) (by omega))
  rw [valQ_of ht] at HV
  have HKY := Lib.hid (fun w => isKey_any k w hks)
  rw [hk] at HKY
  have HBS := Lib.hid (fun (w' : World) (hb : Below w.heap.size w w') => bsearch_any L k (.slice aA L.length cA) w' (hr.below hb) ht.asc (by omega))
  have M0 := Lib.hid (FqS.new S T K (.slice aA L.length cA) s 25 w)
  have HCN := Lib.hid (fun (p : Nat) (h1 : p < L.length) (h2 : sameK (L.getD p Ent.z).k k = true) => cntK_at ht.asc h1 h2)
  have hy := hr.1
  have HN0 : Hid (hasK L k = false → cntK L k = 0) := Lib.hid (fun h => cntK_none (fun y hy => by
    cases hx : sameK y.k k with
    | false => rfl
    | true =>
      have : hasK L k = true := by unfold hasK; rw [List.any_eq_true]; exact ⟨y, hy, hx⟩
      rw [h] at this; cases this))
  clear hr ht hk hks
  generalize cntK L k = n at *
  have ME := Lib.hid (b2 (a := w) (.cells #[.int .i64 S, .int .i64 T, .int .i64 K, .slice aA L.length cA, .bool s] 25) (.cells #[.string ⟨#[]⟩, .int .i64 0, .int .i64 0] 49))
  go_enter Try.func26, Try.ntmps26
  go_upto_region 6 with (first
    | (go_at_call 16; refine (HV.out _ ME.out).mono ?_; rintro e w2 ⟨rfl, hb2⟩; have B2 := Lib.hid (bgo ME.out hb2); have M2 := Lib.hid ((M0.out.go (b1 _)).go hb2); have E2 := Lib.hid ((EnS.second ⟨#[]⟩ 0 0 _ 49 w).go hb2); clear hb2)
    | (go_at_call 38; refine (HKY.out _).mono ?_; rintro e w' ⟨rfl, rfl⟩))
  obtain ⟨⟨m0, m1, m2, m3, m4⟩, -⟩ := M2.out
  obtain ⟨⟨x0, x1, x2⟩, y0, y1, y2⟩ := E2.out
  go_upto_region 7 with (fail)
  have hgn : ¬ (w.heap.size = w.heap.size + 1) := by omega
  have E3 := Lib.hid (E2.out.set k 0 K)
  have B3 := Lib.hid (bset (bset (bset B2.out (w.heap.size + 1) 0 (.string k) (Nat.le_succ _)) (w.heap.size + 1) 1 (.int .i64 0) (Nat.le_succ _)) (w.heap.size + 1) 2 (.int .i64 K) (Nat.le_succ _))
  have M3 := Lib.hid (M2.out.keep (w' := ((w2.setCell ⟨w.heap.size + 1, 0, none⟩ (.string k)).setCell ⟨w.heap.size + 1, 1, none⟩ (.int .i64 0)).setCell ⟨w.heap.size + 1, 2, none⟩ (.int .i64 K)) ((((One.set (w.heap.size + 1) 0 w2 (.string k)).trans (One.set (w.heap.size + 1) 1 _ (.int .i64 0))).trans (One.set (w.heap.size + 1) 2 _ (.int .i64 K))).2.2 w.heap.size M2.out.lt hgn))
  clear m0 m1 m2 m3 m4 x0 x1 x2 y0 y1 y2 M2 E2 B2 M0 ME HV HKY
  generalize ((w2.setCell ⟨w.heap.size + 1, 0, none⟩ (.string k)).setCell ⟨w.heap.size + 1, 1, none⟩ (.int .i64 0)).setCell ⟨w.heap.size + 1, 2, none⟩ (.int .i64 K) = w3 at *
  obtain ⟨⟨m0, m1, m2, m3, m4⟩, -⟩ := M3.out
  have HLS : Hid (∀ (w' : World), Below w.heap.size w w' → RdE L (.slice aA L.length cA) w') := Lib.hid (fun w' hb => HR.out.below hb)
  cases hH : hasK L k with
  | true =>
    have HH := Lib.hid hH
    clear hH
    go_upto_region 8 with (go_at_call 51; refine (HBS.out _ B3.out).mono ?_; rintro e w4 ⟨p, rfl, hp, hb4⟩; rw [HH.out] at hp ⊢; have HP := Lib.hid (hp rfl); have B4 := Lib.hid (bgo B3.out hb4); have M4 := Lib.hid (M3.out.go hb4); have E4 := Lib.hid (E3.out.go hb4); clear m0 m1 m2 m3 m4 hb4 hp; obtain ⟨⟨m0, m1, m2, m3, m4⟩, -⟩ := M4.out; obtain ⟨⟨x0, x1, x2⟩, y0, y1, y2⟩ := E4.out)
    obtain ⟨hpl, hps⟩ := HP.out
    obtain ⟨-, a1, cap1, he1, -, -, hc1⟩ := HLS.out _ B4.out
    simp only [Value.slice.injEq, true_and] at he1
    obtain ⟨rfl, rfl⟩ := he1
    obtain ⟨b, off, rfl, hb, hcell⟩ := hc1 (by omega)
    obtain ⟨c0, c1, c2⟩ := hcell p hpl
    have hCN := Lib.hid (HCN.out p hpl hps)
    have hp0 : (0 : Int) ≤ (p : Int) := by omega
    have hp1 : (p : Int) < (L.length : Int) := by omega
    have HB9 := Lib.hid (bset (bset (bset (bset B4.out (w.heap.size + 1) 1 (.int .i64 (L.getD p Ent.z).c) (Nat.le_succ _)) (w.heap.size + 1) 0 (.string k) (Nat.le_succ _)) (w.heap.size + 1) 1 (.int .i64 (L.getD p Ent.z).c) (Nat.le_succ _)) (w.heap.size + 1) 2 (.int .i64 K) (Nat.le_succ _))
    clear hcell hc1 hb HP hps
    generalize (L.getD p Ent.z).c = c at *
    go_wp2
    ((try simp only [Exit.inBlock, Exit.then]); refine bodyPost_ret (v := .tuple #[.agg #[.string k, .int .i64 c, .int .i64 K], .bool true, .int .i64 0]) (by simp [results, Try.results26, go_sem, *]) rfl ?_)
    exact ⟨by rw [HH.out, hCN.out], HB9.out⟩
  | false =>
    have HH := Lib.hid hH
    have hC0 := Lib.hid (HN0.out hH)
    clear hH
    go_upto_region 8 with (go_at_call 51; refine (HBS.out _ B3.out).mono ?_; rintro e w4 ⟨p, rfl, hp, hb4⟩; rw [HH.out]; have B4 := Lib.hid (bgo B3.out hb4); have M4 := Lib.hid (M3.out.go hb4); have E4 := Lib.hid (E3.out.go hb4); clear m0 m1 m2 m3 m4 hb4 hp; obtain ⟨⟨m0, m1, m2, m3, m4⟩, -⟩ := M4.out; obtain ⟨⟨x0, x1, x2⟩, y0, y1, y2⟩ := E4.out)
    have HB9 := Lib.hid (bset (bset (bset B4.out (w.heap.size + 1) 0 (.string k) (Nat.le_succ _)) (w.heap.size + 1) 1 (.int .i64 0) (Nat.le_succ _)) (w.heap.size + 1) 2 (.int .i64 K) (Nat.le_succ _))
    go_wp2
    ((try simp only [Exit.inBlock, Exit.then]); refine bodyPost_ret (v := .tuple #[.agg #[.string k, .int .i64 0, .int .i64 K], .bool false, .int .i64 0]) (by simp [results, Try.results26, go_sem, *]) rfl ?_)
    exact ⟨by rw [HH.out, hC0.out], HB9.out⟩
end Go.Proofs.Ytmmdnomfpfcjiaa
