/- DgL, DgQ, Law18L: in one text. -/
import Derived.Test.YtpehbfghajlgmaaGreatDgA
import Derived.Test.YtpehbfghajlgmaaGreatSrtQ
import Derived.Test.YtpehbfghajlgmaaGreatLaw18W
import Derived.Test.YtpehbfghajlgmaaGreatBgK
import Derived.Test.YtpehbfghajlgmaaGreatBgS
import Derived.Test.YtpehbfghajlgmaaGreatBgV
import Derived.Test.YtpehbfghajlgmaaGreatOthI
import Derived.Test.YtpehbfghajlgmaaGreatArgsBg
import Derived.Test.YtpehbfghajlgmaaGreatArgsPn
import Derived.Lib.OwnBridge
import Derived.Lib.SlicesCompact
import Derived.Deep.RegionHeld3
import Derived.Deep.CutBlock
import Derived.Deep.CutRange
namespace Go.Proofs.YtpehbfghajlgmaaGreat
open Go.RowKit
set_option linter.unusedVariables false
set_option linter.unusedSimpArgs false
/-- The names that denote an object at a commit: strictly ascending. -/
def LisOf (L : List Bg) (c : Int) (R : List ByteArray) : Prop := R.Pairwise (fun a b => lessK a b = true) ∧ ∀ s, s ∈ R ↔ ∃ x ∈ L, hldB x.k x.s c = true ∧ x.n = s
theorem strict_uniq : ∀ {R S : List ByteArray}, R.Pairwise (fun a b => lessK a b = true) → S.Pairwise (fun a b => lessK a b = true) → (∀ s, s ∈ R ↔ s ∈ S) → R = S
  | [], [], _, _, _ => rfl
  | [], b :: S, _, _, h => absurd ((h b).2 (List.mem_cons_self ..)) (by simp)
  | a :: R, [], _, _, h => absurd ((h a).1 (List.mem_cons_self ..)) (by simp)
  | a :: R, b :: S, h1, h2, h => by
    obtain ⟨ha, hR⟩ := List.pairwise_cons.1 h1
    obtain ⟨hb, hS⟩ := List.pairwise_cons.1 h2
    have hab : a = b := by
      rcases List.mem_cons.1 ((h a).1 (List.mem_cons_self ..)) with e | h3
      · exact e
      · rcases List.mem_cons.1 ((h b).2 (List.mem_cons_self ..)) with e | h4
        · exact e.symm
        · have h5 := hb a h3
          have h6 := ha b h4
          rw [lessK_asym h5] at h6
          cases h6
    subst hab
    have hne : ∀ {T : List ByteArray}, (∀ x ∈ T, lessK a x = true) → a ∉ T := fun hT hm => by
      have := hT a hm
      rw [lessK_irr] at this
      cases this
    rw [strict_uniq hR hS (fun s => by
      have h3 := h s
      simp only [List.mem_cons] at h3
      constructor
      · intro hs
        rcases h3.1 (.inr hs) with e | h4
        · subst e; exact absurd hs (hne ha)
        · exact h4
      · intro hs
        rcases h3.2 (.inr hs) with e | h4
        · subst e; exact absurd hs (hne hb)
        · exact h4)]
theorem LisOf.uniq {L : List Bg} {c : Int} {R S : List ByteArray} (h : LisOf L c R) (k : LisOf L c S) : R = S := strict_uniq h.1 k.1 (fun s => (h.2 s).trans (k.2 s).symm)
theorem le_lt_K {a b c : ByteArray} (h : lessK b a = false) (k : lessK b c = true) : lessK a c = true := by
  rcases lessK_tri a b with h1 | h1 | h1
  · exact lessK_trans h1 k
  · exact h1 ▸ k
  · rw [h] at h1; cases h1
/-- What Compact leaves of ascending bytes. -/
theorem compUp {d : Array (List UInt8)} (hd : ∀ i j, i ≤ j → j < d.size → lessK (mkB d[j]!) (mkB d[i]!) = false) : ∀ m, m ≤ d.size →
    ((Lib.compactUpTo d m).map mkB).Pairwise (fun a b => lessK a b = true) ∧ (∀ x ∈ Lib.compactUpTo d m, 0 < m → lessK (mkB d[m - 1]!) (mkB x) = false) ∧ (∀ x, x ∈ Lib.compactUpTo d m ↔ ∃ j, j < m ∧ d[j]! = x)
  | 0, _ => by
    refine ⟨by simp [Lib.compactUpTo], fun x _ h => absurd h (by omega), fun x => ?_⟩
    simp [Lib.compactUpTo]
  | m + 1, hm => by
    obtain ⟨h1, h2, h3⟩ := compUp hd m (by omega)
    rw [Lib.compactUpTo_succ]
    have hk : Lib.keeps d m = true ∨ (0 < m ∧ d[m]! = d[m - 1]!) := by
      unfold Lib.keeps
      by_cases h0 : m = 0
      · left; simp [h0]
      · by_cases he : d[m]! = d[m - 1]!
        · right; exact ⟨by omega, he⟩
        · left; simp [he]
    rcases hk with hk | ⟨h0, he⟩
    · rw [hk, if_pos rfl]
      refine ⟨?_, ?_, ?_⟩
      · rw [List.map_append, List.pairwise_append]
        refine ⟨h1, List.pairwise_singleton _ _, ?_⟩
        intro a ha b hb
        obtain ⟨x, hx, rfl⟩ := List.mem_map.1 ha
        simp only [List.map_cons, List.map_nil, List.mem_singleton] at hb
        subst hb
        have hm0 : 0 < m := by
          obtain ⟨j, hj, -⟩ := (h3 x).1 hx
          omega
        refine le_lt_K (h2 x hx hm0) ?_
        have h4 := hd (m - 1) m (by omega) (by omega)
        rcases lessK_tri (mkB d[m - 1]!) (mkB d[m]!) with h5 | h5 | h5
        · exact h5
        · have h6 := mkB_inj h5
          unfold Lib.keeps at hk
          simp only [decide_eq_true_eq] at hk
          rcases hk with hk | hk
          · omega
          · exact absurd h6.symm hk
        · rw [h4] at h5; cases h5
      · intro x hx _
        rw [Nat.add_sub_cancel]
        rcases List.mem_append.1 hx with hx | hx
        · obtain ⟨j, hj, rfl⟩ := (h3 x).1 hx
          exact hd j m (by omega) (by omega)
        · rw [List.mem_singleton] at hx
          subst hx
          exact lessK_irr _
      · intro x
        rw [List.mem_append, h3 x, List.mem_singleton]
        constructor
        · rintro (⟨j, hj, rfl⟩ | rfl)
          · exact ⟨j, by omega, rfl⟩
          · exact ⟨m, by omega, rfl⟩
        · rintro ⟨j, hj, rfl⟩
          rcases Nat.lt_or_ge j m with h' | h'
          · exact .inl ⟨j, h', rfl⟩
          · obtain rfl : j = m := by omega
            exact .inr rfl
    · have hk2 : Lib.keeps d m = false := Lib.keeps_neg h0 he
      rw [hk2, if_neg (by decide), List.append_nil]
      refine ⟨h1, ?_, ?_⟩
      · intro x hx _
        rw [Nat.add_sub_cancel, he]
        exact h2 x hx h0
      · intro x
        rw [h3 x]
        constructor
        · rintro ⟨j, hj, rfl⟩
          exact ⟨j, by omega, rfl⟩
        · rintro ⟨j, hj, rfl⟩
          rcases Nat.lt_or_ge j m with h' | h'
          · exact ⟨j, h', rfl⟩
          · obtain rfl : j = m := by omega
            exact ⟨j - 1, by omega, he.symm⟩
/-- What Compact answers. -/
def CmpPost (B : Nat) (N : List ByteArray) (w : World) (e : Ending) (w' : World) : Prop := ∃ v R, e = .returned v ∧ OwnS B R v w' ∧ R.Pairwise (fun a b => lessK a b = true) ∧ (∀ s, s ∈ R ↔ s ∈ N) ∧ Below B w w'
theorem compS_any (N : List ByteArray) (B : Nat) (v : Value) (w : World) (h : OwnS B N v w) (hs : Asc N) (hn : N.length ≤ 1099511627776) :
    Calls Tryz.prog 36 #[v] w fun e w' => CmpPost B N w e w' := by
  have h' := h
  rcases h.2 with ⟨rfl, hz⟩ | ⟨g, cap, cur, rfl, hbase, hb, h1, h2, h3, h4⟩
  · obtain rfl : N = [] := List.eq_nil_of_length_eq_zero hz
    refine (Tryz.slices_Compact_string_empty none 0 w).mono ?_
    rintro e w' ⟨rfl, rfl⟩
    exact ⟨_, [], rfl, h, List.Pairwise.nil, fun s => Iff.rfl, Below.refl _ _⟩
  · obtain ⟨ss, hss⟩ : ∃ ss : List (List UInt8), N = ss.map mkB := ⟨N.map bl, (map_mk N).symm⟩
    subst hss
    have hl : (ss.map mkB).length = ss.length := by simp
    rw [hl] at h1 hn
    have h5 := h'
    unfold OwnS at h5
    rw [cells_enc, hl] at h5
    rw [cells_enc, Nat.mul_one, hl] at h4
    rw [hl]
    refine (Tryz.slices_Compact_string g 0 cap ss w (holds_of_block hb h4) (by omega) h1).mono ?_
    rintro e w' ⟨rfl, q, rfl⟩
    have hlen : (Lib.compact ss).length ≤ ss.length := by
      unfold Lib.compact Lib.compactUpTo
      rw [List.length_map]
      refine Nat.le_trans (List.length_filter_le _ _) ?_
      simp
    have hd : ∀ i j, i ≤ j → j < ss.toArray.size → lessK (mkB ss.toArray[j]!) (mkB ss.toArray[i]!) = false := by
      intro i j hij hj
      have hj' : j < ss.length := by simpa using hj
      have h6 := hs.at_ hij (by simpa using hj')
      simpa [List.getD, getElem!_pos, hj', show i < ss.length by omega] using h6
    obtain ⟨c1, -, c3⟩ := compUp hd ss.length (by simp)
    refine ⟨_, (Lib.compact ss).map mkB, rfl, ?_, c1, ?_, Lib.below_putRow (Below.refl B w) hbase⟩
    · have h7 := Lib.ownsRow_putRow (q := q) (k := (Lib.compact ss).length) (ys := Lib.compact ss ++ List.replicate (ss.length - (Lib.compact ss).length) []) h5 (by simp; omega) hlen
      rw [List.take_left] at h7
      unfold OwnS
      rw [cells_enc, List.length_map]
      exact h7
    · intro s
      rw [List.mem_map, List.mem_map]
      constructor
      · rintro ⟨x, hx, rfl⟩
        obtain ⟨j, hj, rfl⟩ := (c3 x).1 hx
        exact ⟨_, by simp [getElem!_pos, hj], rfl⟩
      · rintro ⟨x, hx, rfl⟩
        obtain ⟨j, hj, rfl⟩ := List.mem_iff_getElem.1 hx
        exact ⟨_, (c3 _).2 ⟨j, hj, by simp [getElem!_pos, hj]⟩, rfl⟩
/-- The names of the bindings that hold. -/
def namsB (L : List Bg) (c : Int) : List ByteArray := (L.filter (fun x => hldB x.k x.s c)).map (·.n)
theorem namsB_take {L : List Bg} {c : Int} {q : Nat} (h : q < L.length) : namsB (L.take (q + 1)) c = namsB (L.take q) c ++ (if hldB (L.getD q Bg.z).k (L.getD q Bg.z).s c = true then [(L.getD q Bg.z).n] else []) := by
  have e : L.take (q + 1) = L.take q ++ [L.getD q Bg.z] := by
    rw [List.take_succ_eq_append_getElem h]
    simp [List.getD, h]
  unfold namsB
  rw [e, List.filter_append, List.map_append]
  congr 1
  by_cases hh : hldB (L.getD q Bg.z).k (L.getD q Bg.z).s c = true
  · rw [if_pos hh, List.filter_cons, if_pos hh]; rfl
  · rw [if_neg hh, List.filter_cons, if_neg hh]; rfl
theorem namsB_len (L : List Bg) (c : Int) : (namsB L c).length ≤ L.length := by
  unfold namsB
  rw [List.length_map]
  exact List.length_filter_le _ _
/-- What List answers. -/
def LstPost (L : List Bg) (c : Int) (w : World) (e : Ending) (w' : World) : Prop := ∃ v R, e = .returned v ∧ OwnS w.heap.size R v w' ∧ LisOf L c R ∧ Below w.heap.size w w'
set_option maxRecDepth 100000 in
set_option maxHeartbeats 2000000 in
theorem plist_any (L : List Bg) (v : Value) (c : Int) (w : World) (hv : RdBg L v w) (hL : L.length ≤ 1000000) :
    Calls Tryz.prog 16 #[v, .int .i64 c] w fun e w' => LstPost L c w e w' := by
  obtain ⟨a, cap, rfl⟩ := hv.shape
  have HV := Lib.hid hv
  have HL := Lib.hid hL
  clear hv
  go_enter Tryz.func16, Tryz.ntmps16
  go_wp2
  go_loopw [5, 7, 10] (fun bd _ i wr => ∃ q : Nat, q ≤ L.length ∧ i = .int .i64 (q : Int) ∧ Hid (OwnS w.heap.size (namsB (L.take q) c) bd wr ∧ Below w.heap.size w wr)) (fun _ _ i _ => L.length - (intOf i).toNat)
  case atStart => exact ⟨0, by omega, rfl, Lib.hid ⟨OwnS.empty _ _, Below.refl _ _⟩⟩
  case round =>
    obtain ⟨q, hq, rfl, HI⟩ := hrel
    by_cases hlt : q < L.length
    · have hqi : (q : Int) < (L.length : Int) := by omega
      obtain ⟨b, off, rfl, hbl, c0, c1, c2, c3⟩ := (HV.out.below HI.out.2).at_ hlt
      have HNT := Lib.hid (namsB_take (c := c) hlt)
      have HNL := Lib.hid (namsB_len (L.take q) c)
      obtain ⟨x, hx⟩ : ∃ x, L.getD q Bg.z = x := ⟨_, rfl⟩
      rw [hx] at c0 c1 c2 c3 HNT
      clear hx
      obtain ⟨n, r, k, s⟩ := x
      simp only at c0 c1 c2 c3
      have HNT : Hid (namsB (L.take (q + 1)) c = namsB (L.take q) c ++ (if hldB k s c = true then [n] else [])) := HNT
      have hh := fun w => holds18_any n r k s c w
      cases hb : hldB k s c with
      | true =>
        rw [hb] at hh
        have HF := Lib.hid (HNT.out.trans (by rw [hb, if_pos rfl]))
        clear HNT hb
        go_upto_region 6 with (go_at_call 29; refine (hh _).mono ?_; rintro e w3 ⟨rfl, hb⟩; have B3 := Lib.hid (bgo (bal HI.out.2 _) hb); have O3 := Lib.hid ((HI.out.1.alloc _).below hb); have d0 := ((bcell hb).1 wr.heap.size 0 (by simp)).trans (show (wr.alloc (.cells #[.string n, .int .i64 r, .int .i64 k, .int .i64 s] 27)).cell? ⟨wr.heap.size, 0, none⟩ = some (.string n) by go_simp); clear hb)
        have HO3 := Lib.hid (O3.out.alloc (.cells #[.string n] 9))
        have HS3 := Lib.hid ((OwnS.one n w3).rd.src)
        go_wp2_with (at_builtin; refine wp_appS rfl _ _ _ rfl w.heap.size (namsB (L.take q) c) [n] _ _ rfl rfl HO3.out HS3.out ?c1 ?c2 ?_)
        case c1 => have := B3.out.size; simp; omega
        case c2 => have := HNL.out; have := HL.out; simp at *; omega
        intro v4 w4 ho hb
        have HO4 := Lib.hid ho
        have B4 := Lib.hid ((bal B3.out _).trans hb)
        clear ho hb
        go_wp2
        go_roundw
        case rel => exact ⟨q + 1, by omega, by go_num, Lib.hid ⟨by rw [HF.out]; exact HO4.out, B4.out⟩⟩
        case measure => simp [intOf]; omega
      | false =>
        rw [hb] at hh
        have HF := Lib.hid (HNT.out.trans (by rw [hb, if_neg (by decide), List.append_nil]))
        clear HNT hb
        go_wp2_with (go_at_call 29; refine (hh _).mono ?_; rintro e w3 ⟨rfl, hb⟩; have B3 := Lib.hid (bgo (bal HI.out.2 _) hb); have O3 := Lib.hid ((HI.out.1.alloc _).below hb); clear hb)
        go_roundw
        case rel => exact ⟨q + 1, by omega, by go_num, Lib.hid ⟨by rw [HF.out]; exact O3.out, B3.out⟩⟩
        case measure => simp [intOf]; omega
    · obtain rfl : q = L.length := by omega
      have hi := HI.out
      rw [List.take_length] at hi
      have HN : Hid ((namsB L c).length ≤ 1099511627776) := Lib.hid (by have := namsB_len L c; have := HL.out; omega)
      have HI2 := Lib.hid hi
      clear hi HI
      go_wp2_with (first
        | (go_at_call 35; refine (sortS_any (namsB L c) w.heap.size _ wr HI2.out.1 HN.out).mono ?_; rintro e w3 ⟨rfl, ho, -, hb⟩; have O3 := Lib.hid ho; have B3 := Lib.hid (HI2.out.2.trans hb); clear ho hb)
        | (go_at_call 36; refine (compS_any _ w.heap.size _ w3 O3.out (sortK_sorted _) (by rw [sortK_len]; exact HN.out)).mono ?_; rintro e w4 ⟨v4, R, rfl, ho, hp, hm, hb⟩; have O4 := Lib.hid ho; have HP := Lib.hid hp; have HM := Lib.hid hm; have B4 := Lib.hid (B3.out.trans hb); clear ho hp hm hb))
      go_ret
      refine ⟨_, R, rfl, O4.out, ⟨HP.out, fun s => ?_⟩, B4.out⟩
      rw [HM.out s, (sortK_perm _).mem_iff]
      unfold namsB
      rw [List.mem_map]
      constructor
      · rintro ⟨x, hx, rfl⟩
        obtain ⟨hx1, hx2⟩ := List.mem_filter.1 hx
        exact ⟨x, hx1, hx2, rfl⟩
      · rintro ⟨x, hx1, hx2, rfl⟩
        exact ⟨x, List.mem_filter.2 ⟨hx1, hx2⟩, rfl⟩
theorem bg_takeq {L : List Bg} {q : Nat} (h : q < L.length) : L.take (q + 1) = L.take q ++ [L.getD q Bg.z] := by
  rw [List.take_succ_eq_append_getElem h]
  simp [List.getD, h]
theorem lis_mem {L : List Bg} {c : Int} {q : Nat} (h : q < L.length) (s : ByteArray) : (∃ x ∈ L.take (q + 1), hldB x.k x.s c = true ∧ x.n = s) ↔ (∃ x ∈ L.take q, hldB x.k x.s c = true ∧ x.n = s) ∨ (hldB (L.getD q Bg.z).k (L.getD q Bg.z).s c = true ∧ (L.getD q Bg.z).n = s) := by
  rw [bg_takeq h]
  constructor
  · rintro ⟨x, hx, h1⟩
    rcases List.mem_append.1 hx with hx | hx
    · exact .inl ⟨x, hx, h1⟩
    · rw [List.mem_singleton] at hx
      subst hx
      exact .inr h1
  · rintro (⟨x, hx, h1⟩ | h1)
    · exact ⟨x, List.mem_append.2 (.inl hx), h1⟩
    · exact ⟨_, List.mem_append.2 (.inr (List.mem_singleton.2 rfl)), h1⟩
theorem lis_skip {L : List Bg} {c : Int} {q : Nat} {R : List ByteArray} (h : LisOf (L.take q) c R) (hq : q < L.length) (hh : hldB (L.getD q Bg.z).k (L.getD q Bg.z).s c = false) : LisOf (L.take (q + 1)) c R := by
  refine ⟨h.1, fun s => ?_⟩
  rw [h.2 s, lis_mem hq, hh]
  simp
theorem lis_same {L : List Bg} {c : Int} {q : Nat} {R : List ByteArray} (h : LisOf (L.take q) c R) (hq : q < L.length) (hm : (L.getD q Bg.z).n ∈ R) : LisOf (L.take (q + 1)) c R := by
  refine ⟨h.1, fun s => ?_⟩
  rw [lis_mem hq, ← h.2 s]
  constructor
  · exact .inl
  · rintro (h1 | ⟨-, rfl⟩)
    · exact h1
    · exact hm
theorem lis_put {L : List Bg} {c : Int} {q k : Nat} {R : List ByteArray} {n : ByteArray} (h : LisOf (L.take q) c R) (hq : q < L.length) (hh : hldB (L.getD q Bg.z).k (L.getD q Bg.z).s c = true) (hn : (L.getD q Bg.z).n = n) (hk : k ≤ R.length) (h1 : ∀ j, j < k → lessK (R.getD j ByteArray.empty) n = true) (h2 : k < R.length → lessK (R.getD k ByteArray.empty) n = false ∧ R.getD k ByteArray.empty ≠ n) : LisOf (L.take (q + 1)) c (R.take k ++ [n] ++ R.drop k) := by
  have hp := h.1
  rw [← List.take_append_drop k R, List.pairwise_append] at hp
  obtain ⟨p1, p2, p3⟩ := hp
  have hl : ∀ a ∈ R.take k, lessK a n = true := by
    intro a ha
    obtain ⟨j, hj, rfl⟩ := List.mem_iff_getElem.1 ha
    rw [List.length_take] at hj
    have := h1 j (by omega)
    rw [List.getElem_take]
    simpa [List.getD, show j < R.length by omega] using this
  have hr : ∀ b ∈ R.drop k, lessK n b = true := by
    intro b hb
    obtain ⟨j, hj, rfl⟩ := List.mem_iff_getElem.1 hb
    rw [List.length_drop] at hj
    obtain ⟨g1, g2⟩ := h2 (by omega)
    have g3 : lessK n (R.getD k ByteArray.empty) = true := by
      rcases lessK_tri n (R.getD k ByteArray.empty) with g | g | g
      · exact g
      · exact absurd g.symm g2
      · rw [g1] at g; cases g
    rw [List.getElem_drop]
    by_cases h0 : j = 0
    · subst h0
      simpa [List.getD, show k < R.length by omega] using g3
    · have g4 := List.pairwise_iff_getElem.1 h.1 k (k + j) (by omega) (by omega) (by omega)
      refine lessK_trans g3 ?_
      simpa [List.getD, show k < R.length by omega] using g4
  refine ⟨?_, fun s => ?_⟩
  · rw [List.append_assoc, List.pairwise_append]
    refine ⟨p1, ?_, ?_⟩
    · rw [List.singleton_append, List.pairwise_cons]
      exact ⟨hr, p2⟩
    · intro a ha b hb
      rw [List.singleton_append, List.mem_cons] at hb
      rcases hb with rfl | hb
      · exact hl a ha
      · exact p3 a ha b hb
  · rw [lis_mem hq, ← h.2 s, List.mem_append, List.mem_append, List.mem_singleton, hh, hn]
    constructor
    · rintro ((h3 | rfl) | h3)
      · exact .inl (List.mem_of_mem_take h3)
      · exact .inr ⟨rfl, rfl⟩
      · exact .inl (List.mem_of_mem_drop h3)
    · rintro (h3 | ⟨-, rfl⟩)
      · rw [← List.take_append_drop k R, List.mem_append] at h3
        rcases h3 with h3 | h3
        · exact .inl (.inl h3)
        · exact .inr h3
      · exact .inl (.inr rfl)
theorem RdS.atq {L : List ByteArray} {n cap : Nat} {a : Option Addr} {w : World} (h : RdS L (.slice a n cap) w) {j : Nat} (hj : j < L.length) :
    ∃ b off, a = some ⟨b, off, none⟩ ∧ b < w.heap.size ∧ w.cell? ⟨b, off + j, none⟩ = some (.string (L.getD j ByteArray.empty)) := by
  obtain ⟨a', cap', he, -, -, hcell⟩ := h
  simp only [Value.slice.injEq] at he
  obtain ⟨rfl, -, rfl⟩ := he
  obtain ⟨b, off, rfl, hbl, hc⟩ := hcell (by omega)
  exact ⟨b, off, rfl, hbl, hc j hj⟩
theorem RdS.nil (a : Option Addr) (cap : Nat) (hc : cap ≤ maxLen) (w : World) : RdS [] (.slice a 0 cap) w := ⟨a, cap, rfl, Nat.zero_le _, hc, fun h => absurd h (by simp)⟩
theorem RdS.left {R : List ByteArray} {g cap : Nat} {w : World} (h : RdS R (.slice (some ⟨g, 0, none⟩) R.length cap) w) {k : Nat} (hk : k ≤ R.length) : RdS (R.take k) (.slice (some ⟨g, 0, none⟩) k cap) w := by
  obtain ⟨a', c', he, h1, h2, h3⟩ := h
  simp only [Value.slice.injEq, true_and] at he
  obtain ⟨rfl, rfl⟩ := he
  have hl : (R.take k).length = k := by rw [List.length_take]; omega
  refine ⟨_, cap, by rw [hl], by omega, h2, fun hp => ?_⟩
  obtain ⟨b, off, he, hb, hc⟩ := h3 (by omega)
  refine ⟨b, off, he, hb, fun j hj => ?_⟩
  rw [hc j (by omega)]
  have hj2 : j < k := by omega
  simp [List.getD, List.getElem?_take, hj2]
theorem RdS.right {R : List ByteArray} {g cap : Nat} {w : World} (h : RdS R (.slice (some ⟨g, 0, none⟩) R.length cap) w) {k : Nat} (hk : k ≤ R.length) : RdS (R.drop k) (.slice (some ⟨g, k, none⟩) (R.length - k) (cap - k)) w := by
  obtain ⟨a', c', he, h1, h2, h3⟩ := h
  simp only [Value.slice.injEq, true_and] at he
  obtain ⟨rfl, rfl⟩ := he
  have hl : (R.drop k).length = R.length - k := List.length_drop
  refine ⟨_, cap - k, by rw [hl], by omega, by unfold maxLen at *; omega, fun hp => ?_⟩
  obtain ⟨b, off, he, hb, hc⟩ := h3 (by omega)
  simp only [Option.some.injEq, Addr.mk.injEq, and_true] at he
  obtain ⟨rfl, rfl⟩ := he
  refine ⟨g, k, rfl, hb, fun j hj => ?_⟩
  have := hc (k + j) (by omega)
  rw [Nat.zero_add] at this
  rw [this]
  simp [List.getD, List.getElem?_drop]
theorem OwnS.blk {B : Nat} {L : List ByteArray} {a : Option Addr} {n cap : Nat} {w : World} (h : OwnS B L (.slice a n cap) w) (hp : 0 < L.length) : ∃ g, a = some ⟨g, 0, none⟩ ∧ B ≤ g ∧ g < w.heap.size ∧ n = L.length ∧ L.length ≤ cap ∧ cap ≤ maxLen := by
  rcases h.2 with ⟨he, hn⟩ | ⟨g, cap', cur, he, hb, hg, h1, h2, _⟩
  · omega
  · simp only [Value.slice.injEq] at he
    obtain ⟨rfl, hnl, rfl⟩ := he
    exact ⟨g, rfl, hb, (Array.getElem?_eq_some_iff.1 hg).1, hnl, h1, h2⟩
/-- In the loop: what has been listed of the first q bindings. -/
def LsI (L : List Bg) (c : Int) (q : Nat) (w : World) (R : List ByteArray) (v : Value) (wr : World) : Prop := LisOf (L.take q) c R ∧ OwnS w.heap.size R v wr ∧ (R = [] → v = .slice none 0 0) ∧ R.length ≤ q ∧ Below w.heap.size w wr
theorem LsI.put {L : List Bg} {c : Int} {q k : Nat} {w wr w' : World} {R : List ByteArray} {v v' : Value} {n : ByteArray} (h : LsI L c q w R v wr) (hl : LisOf (L.take (q + 1)) c (R.take k ++ [n] ++ R.drop k)) (ho : OwnS w.heap.size (R.take k ++ [n] ++ R.drop k) v' w') (hb : Below w.heap.size w w') : LsI L c (q + 1) w (R.take k ++ [n] ++ R.drop k) v' w' := by
  refine ⟨hl, ho, fun he => ?_, ?_, hb⟩
  · have := congrArg List.length he
    simp at this
  · have := h.2.2.2.1
    simp only [List.length_append, List.length_take, List.length_drop, List.length_singleton]
    omega
set_option maxRecDepth 100000 in
set_option maxHeartbeats 8000000 in
theorem rlist_any (L : List Bg) (v : Value) (c : Int) (w : World) (hv : RdBg L v w) (hL : L.length ≤ 1000000) :
    Calls Tryz.prog 17 #[v, .int .i64 c] w fun e w' => LstPost L c w e w' := by
  obtain ⟨a, cap, rfl⟩ := hv.shape
  have HV := Lib.hid hv
  have HL := Lib.hid hL
  clear hv
  go_enter Tryz.func17, Tryz.ntmps17
  go_wp2
  go_loopw [5, 6, 7] (fun out i _ wr => ∃ (q : Nat) (R : List ByteArray), q ≤ L.length ∧ i = .int .i64 (q : Int) ∧ Hid (LsI L c q w R out wr)) (fun _ i _ _ => L.length - (intOf i).toNat)
  case atStart => exact ⟨0, [], by omega, rfl, Lib.hid ⟨⟨List.Pairwise.nil, fun s => by simp⟩, OwnS.empty _ _, fun _ => rfl, Nat.le_refl _, Below.refl _ _⟩⟩
  case round =>
    obtain ⟨q, R, hq, rfl, HI⟩ := hrel
    obtain ⟨oa, oc, rfl⟩ := HI.out.2.1.rd.shape
    have hRL : R.length ≤ 1000000 := by have := HI.out.2.2.2.1; have := HL.out; omega
    by_cases hlt : q < L.length
    · have hqi : (q : Int) < (L.length : Int) := by omega
      have HQ := Lib.hid hlt
      obtain ⟨b, off, rfl, hbl, c0, c1, c2, c3⟩ := (HV.out.below HI.out.2.2.2.2).at_ hlt
      have HSK := Lib.hid (fun hh => lis_skip HI.out.1 hlt hh)
      have HSM := Lib.hid (fun hm => lis_same HI.out.1 hlt hm)
      have HPT := Lib.hid (fun hh (n : ByteArray) (hn : (L.getD q Bg.z).n = n) (k : Nat) (hk : k ≤ R.length) h1 h2 => lis_put HI.out.1 hlt hh hn hk h1 h2)
      obtain ⟨x, hx⟩ : ∃ x, L.getD q Bg.z = x := ⟨_, rfl⟩
      rw [hx] at c0 c1 c2 c3 HSK HSM HPT
      clear hx
      obtain ⟨n, r, k0, s⟩ := x
      simp only at c0 c1 c2 c3
      have HSK : Hid (hldB k0 s c = false → LisOf (L.take (q + 1)) c R) := HSK
      have HSM : Hid (n ∈ R → LisOf (L.take (q + 1)) c R) := HSM
      have HPT : Hid (hldB k0 s c = true → ∀ (k : Nat), k ≤ R.length → (∀ j, j < k → lessK (R.getD j ByteArray.empty) n = true) → (k < R.length → lessK (R.getD k ByteArray.empty) n = false ∧ R.getD k ByteArray.empty ≠ n) → LisOf (L.take (q + 1)) c (R.take k ++ [n] ++ R.drop k)) := Lib.hid (fun hh k hk h1 h2 => HPT.out hh n rfl k hk h1 h2)
      have hh := fun w => rholds_any k0 s c w
      cases hb : hldB k0 s c with
      | false =>
        rw [hb] at hh
        have HF := Lib.hid (HSK.out hb)
        clear HSK HSM HPT hb
        go_wp2
        go_quiet ((go_at_call 34; exact quiet_left (hh _)))
        go_wp2
        go_roundw
        case rel => exact ⟨q + 1, R, HQ.out, by go_num, Lib.hid ⟨HF.out, HI.out.2.1.drewN _, HI.out.2.2.1, Nat.le_succ_of_le HI.out.2.2.2.1, below_drewN HI.out.2.2.2.2 _⟩⟩
        case measure => have := HQ.out; simp [intOf]; omega
      | true =>
        rw [hb] at hh
        have HPU := Lib.hid (HPT.out hb)
        clear HSK HPT hb
        go_wp2
        go_quiet ((go_at_call 34; exact quiet_left (hh _)))
        generalize hW1 : wr.drewN _ = w1 at *
        have HI1 : Hid (LsI L c q w R (.slice oa R.length oc) w1) := Lib.hid (by rw [← hW1]; exact ⟨HI.out.1, HI.out.2.1.drewN _, HI.out.2.2.1, HI.out.2.2.2.1, below_drewN HI.out.2.2.2.2 _⟩)
        have c0 : w1.cell? ⟨b, off + q * 4, none⟩ = some (.string n) := by rw [← hW1]; exact c0
        clear hW1 HI c1 c2 c3
        have hRL2 : (R.length : Int) ≤ 1000000 := by omega
        have HBW := Lib.hid HI1.out.2.2.2.2
        have HLR := Lib.hid hRL
        have HCN : Hid (∀ W, Below w1.heap.size w1 W → W.cell? ⟨b, off + q * 4, none⟩ = some (.string n)) := Lib.hid (fun W h => ((bcell h).1 b (off + q * 4) (World.block_lt_of_cell? w1 _ c0)).trans c0)
        clear hh
        by_cases hR : R.length = 0
        · have hR0 : R = [] := List.eq_nil_of_length_eq_zero hR
          obtain ⟨rfl, -, rfl⟩ : oa = none ∧ R.length = 0 ∧ oc = 0 := by
            have h := HI1.out.2.2.1 hR0
            simpa using h
          have HLP := Lib.hid (HPU.out 0 (Nat.zero_le _) (fun j hj => by omega) (fun h => by omega))
          have HE := Lib.hid hR0
          rw [hR] at HI1 ⊢
          clear hR hR0
          go_wp2
          go_loopw [7] (fun kk wr2 => ∃ m : Nat, kk = .int .i64 0 ∧ wr2 = w1.drewN m) (fun _ _ => 0)
          case atStart => exact ⟨0, by go_num, rfl⟩
          case round =>
            obtain ⟨m, rfl, rfl⟩ := hrel
            go_wp2
            go_quiet (fail)
            go_wp2
            go_quiet (fail)
            have HWB : Hid (∀ m2, Below w1.heap.size w1 (w1.drewN m2)) := Lib.hid (fun m2 => below_drewN (Below.refl _ _) m2)
            generalize hW2 : World.drewN _ _ = w2 at *
            have B2 : Hid (Below w1.heap.size w1 w2) := Lib.hid (by rw [← hW2]; first | exact below_drewN (Below.refl _ _) _ | exact below_drewN (below_drewN (Below.refl _ _) _) _ | exact below_drewN (below_drewN (below_drewN (Below.refl _ _) _) _) _)
            clear hW2 HWB
            have e0 := HCN.out w2 B2.out
            have HS1 : Hid (∀ W, Below w2.heap.size w2 W → FromS (R.take 0) 44 (.slice none 0 0) W) := Lib.hid (fun W h => by rw [HE.out]; exact (RdS.nil none 0 (by decide) W).src)
            have HS3 : Hid (∀ W, Below w2.heap.size w2 W → FromS (R.drop 0) 44 (.slice none 0 0) W) := Lib.hid (fun W h => by rw [HE.out]; exact (RdS.nil none 0 (by decide) W).src)
            have HCW : Hid (∀ W, Below w2.heap.size w2 W → W.cell? ⟨b, off + q * 4, none⟩ = some (.string n)) := Lib.hid (fun W h => HCN.out W (bgo B2.out h))
            have e1 := HCW.out w2.drew (below_drew (Below.refl _ _))
            have HLT : Hid ((R.take 0).length ≤ 1000000) := Lib.hid (by rw [List.length_take]; have := HLR.out; omega)
            have HLD : Hid ((R.drop 0).length ≤ 1000000) := Lib.hid (by rw [List.length_drop]; have := HLR.out; omega)
            go_wp2
            go_region_held3 (fun u => u.cell? ⟨b, off + q * 4, none⟩ = some (.string n)) (first | with_reducible assumption | go_keep) (first
              | (refine step_appS rfl _ _ 44 rfl w2.heap.size (R.take 0 ++ [n]) (R.drop 0) _ _ rfl rfl (by first | exact O6.out | exact O6.out.alloc _) (HS3.out _ (by first | exact B6.out | exact B6.out.trans ((Go.Proofs.YtpehbfghajlgmaaGreat.b1 _).mono B6.out.size))) (by first | exact B6.out.size | exact Nat.le_trans B6.out.size (Go.Proofs.YtpehbfghajlgmaaGreat.b1 _).size) (by have := HLT.out; have := HLD.out; rw [List.length_append]; simp only [List.length_singleton]; omega) ?_; (intro v7 w7 o7 hb7; have O7 := Lib.hid o7; have B7 : Hid (Below w2.heap.size w2 w7) := Lib.hid (B6.out.trans hb7); have S7 := HCW.out w7 B7.out; clear o7 hb7))
              | (refine step_appS rfl _ _ 44 rfl w2.heap.size (R.take 0) [n] _ _ rfl rfl (by first | exact O5.out | exact O5.out.alloc _) (by first | exact (OwnS.one n _).rd.src | exact (((OwnS.one n w2.drew).below C5.out).rd).src) (by first | exact B5.out.size | exact Nat.le_trans B5.out.size (Go.Proofs.YtpehbfghajlgmaaGreat.b1 _).size) (by have := HLT.out; simp only [List.length_singleton]; omega) ?_; (intro v6 w6 o6 hb6; have O6 := Lib.hid o6; have B6 : Hid (Below w2.heap.size w2 w6) := Lib.hid (by first | exact B5.out.trans hb6 | exact (B5.out.trans ((Go.Proofs.YtpehbfghajlgmaaGreat.b1 _).mono B5.out.size)).trans hb6); have S6 := HCW.out w6 B6.out; clear o6 hb6))
              | (refine step_appS rfl _ _ 44 rfl _ [] (R.take 0) _ _ rfl rfl (OwnS.empty _ _) (HS1.out _ (by first | exact (Below.refl _ _).drew | exact (Go.Proofs.YtpehbfghajlgmaaGreat.b1 _).drew | exact (Below.refl _ _).drew.trans (Go.Proofs.YtpehbfghajlgmaaGreat.b1 _))) (Nat.le_refl _) (by have := HLT.out; simp only [List.length_nil]; omega) ?_; (intro v5 w5 o5 hb5; rw [List.nil_append] at o5; have O5 : Hid (OwnS w2.heap.size (R.take 0) v5 w5) := Lib.hid (o5.mono (by first | exact Nat.le_refl _ | exact (Go.Proofs.YtpehbfghajlgmaaGreat.b1 (a := w2) _).size)); have C5 := Lib.hid hb5; have B5 : Hid (Below w2.heap.size w2 w5) := Lib.hid (by first | exact (Below.refl _ _).drew.trans hb5 | exact ((Below.refl _ _).drew.trans (Go.Proofs.YtpehbfghajlgmaaGreat.b1 _)).trans (hb5.mono (Go.Proofs.YtpehbfghajlgmaaGreat.b1 (a := w2) _).size) | exact (Go.Proofs.YtpehbfghajlgmaaGreat.b1 _).drew.trans (hb5.mono (Go.Proofs.YtpehbfghajlgmaaGreat.b1 (a := w2) _).size)); have S5 := HCW.out w5 B5.out; clear o5 hb5)))
            all_goals
              go_wp2
              refine ⟨⟨q + 1, R.take 0 ++ [n] ++ R.drop 0, HQ.out, by go_num, Lib.hid (LsI.put HI1.out HLP.out (O7.out.mono (Nat.le_trans HBW.out.size B2.out.size)) (HBW.out.trans ((bgo B2.out B7.out).mono HBW.out.size)))⟩, by have := HQ.out; simp [intOf]; omega⟩
        · have hRp : 0 < R.length := by omega
          obtain ⟨g, rfl, hg1, hg2, -, hg3, hg4⟩ := HI1.out.2.1.blk hRp
          have hoc : R.length ≤ oc := hg3
          have hoc2 : oc ≤ 9223372036854775807 := by unfold maxLen at hg4; omega
          have HRR := Lib.hid HI1.out.2.1.rd
          have HM4 := Lib.hid hg4
          clear hR hRp hg1 hg2 hg3 hg4
          go_wp2
          go_loopw [7] (fun kk wr2 => ∃ (k m : Nat), k ≤ R.length ∧ kk = .int .i64 (k : Int) ∧ Hid (∀ j, j < k → lessK (R.getD j ByteArray.empty) n = true) ∧ wr2 = w1.drewN m) (fun kk _ => R.length - (intOf kk).toNat)
          case atStart => exact ⟨0, 0, by omega, by go_num, Lib.hid (fun j hj => by omega), rfl⟩
          case round =>
            obtain ⟨k, m, hk, rfl, HJ, rfl⟩ := hrel
            have hkoc : (k : Int) ≤ (oc : Int) := by omega
            have hkR : (k : Int) ≤ (R.length : Int) := by omega
            have hRoc : (R.length : Int) ≤ (oc : Int) := by omega
            have hk0 : (0 : Int) ≤ (k : Int) := by omega
            have HK := Lib.hid hk
            by_cases hkl : k < R.length
            · have hki : (k : Int) < (R.length : Int) := by omega
              have hcc : ¬ (oc = k) := by omega
              have hcc2 : ¬ ((oc : Int) = (k : Int)) := by omega
              have HKL := Lib.hid hkl
              obtain ⟨b5, o5, hbo, -, d0⟩ := HRR.out.atq hkl
              simp only [Option.some.injEq, Addr.mk.injEq, and_true] at hbo
              obtain ⟨rfl, rfl⟩ := hbo
              have HMEM : Hid (R.getD k ByteArray.empty ∈ R) := Lib.hid (by simp [List.getD, hkl])
              obtain ⟨rk, hrk⟩ : ∃ rk, R.getD k ByteArray.empty = rk := ⟨_, rfl⟩
              have HRK := Lib.hid hrk
              rw [hrk] at d0 HMEM
              rw [Nat.zero_add] at d0
              clear hrk
              cases hls : lessK rk n with
              | true =>
                have HJ2 : Hid (∀ j, j < k + 1 → lessK (R.getD j ByteArray.empty) n = true) := Lib.hid (fun j hj => by
                  rcases Nat.lt_or_ge j k with h | h
                  · exact HJ.out j h
                  · obtain rfl : j = k := by omega
                    rw [HRK.out]; exact hls)
                unfold lessK at hls
                go_wp2
                go_quiet (fail)
                go_wp2
                go_roundw
                case rel => exact ⟨k + 1, _, HKL.out, by go_num, HJ2, by first | rfl | exact World.drewN_drewN _ _ _⟩
                case measure => have := HKL.out; simp [intOf]; omega
              | false =>
                have HLS := Lib.hid hls
                unfold lessK at hls
                by_cases hrn : rk = n
                · have HF := Lib.hid (HSM.out (hrn ▸ HMEM.out))
                  clear HSM HRK HMEM
                  subst hrn
                  go_wp2
                  go_quiet (fail)
                  go_wp2
                  go_quiet (fail)
                  go_wp2
                  go_roundw
                  case rel => exact ⟨q + 1, R, HQ.out, by go_num, Lib.hid ⟨HF.out, HI1.out.2.1.drewN _, HI1.out.2.2.1, Nat.le_succ_of_le HI1.out.2.2.2.1, below_drewN HI1.out.2.2.2.2 _⟩⟩
                  case measure => have := HQ.out; simp [intOf]; omega
                · have HLP := Lib.hid (HPU.out k HK.out HJ.out (fun _ => ⟨by rw [HRK.out]; exact HLS.out, by rw [HRK.out]; exact hrn⟩))
                  have he : (rk.toList == n.toList) = false := beq_eq_false_iff_ne.2 (fun h => hrn (toL_inj h))
                  clear HSM HMEM HRK HJ
                  go_wp2
                  go_quiet (fail)
                  go_wp2
                  go_quiet (fail)
                  have HWB : Hid (∀ m2, Below w1.heap.size w1 (w1.drewN m2)) := Lib.hid (fun m2 => below_drewN (Below.refl _ _) m2)
                  generalize hW2 : World.drewN _ _ = w2 at *
                  have B2 : Hid (Below w1.heap.size w1 w2) := Lib.hid (by rw [← hW2]; first | exact below_drewN (Below.refl _ _) _ | exact below_drewN (below_drewN (Below.refl _ _) _) _ | exact below_drewN (below_drewN (below_drewN (Below.refl _ _) _) _) _)
                  clear hW2 HWB
                  have e0 := HCN.out w2 B2.out
                  have HS1 : Hid (∀ W, Below w2.heap.size w2 W → FromS (R.take k) 44 (.slice (some ⟨g, 0, none⟩) k oc) W) := Lib.hid (fun W h => ((HRR.out.below (bgo B2.out h)).left HK.out).src)
                  have HS3 : Hid (∀ W, Below w2.heap.size w2 W → FromS (R.drop k) 44 (.slice (some ⟨g, k, none⟩) (R.length - k) (oc - k)) W) := Lib.hid (fun W h => ((HRR.out.below (bgo B2.out h)).right HK.out).src)
                  have HCW : Hid (∀ W, Below w2.heap.size w2 W → W.cell? ⟨b, off + q * 4, none⟩ = some (.string n)) := Lib.hid (fun W h => HCN.out W (bgo B2.out h))
                  have e1 := HCW.out w2.drew (below_drew (Below.refl _ _))
                  have HLT : Hid ((R.take k).length ≤ 1000000) := Lib.hid (by rw [List.length_take]; have := HLR.out; omega)
                  have HLD : Hid ((R.drop k).length ≤ 1000000) := Lib.hid (by rw [List.length_drop]; have := HLR.out; omega)
                  go_wp2
                  go_region_held3 (fun u => u.cell? ⟨b, off + q * 4, none⟩ = some (.string n)) (first | with_reducible assumption | go_keep) (first
                    | (refine step_appS rfl _ _ 44 rfl w2.heap.size (R.take k ++ [n]) (R.drop k) _ _ rfl rfl (by first | exact O6.out | exact O6.out.alloc _) (HS3.out _ (by first | exact B6.out | exact B6.out.trans ((Go.Proofs.YtpehbfghajlgmaaGreat.b1 _).mono B6.out.size))) (by first | exact B6.out.size | exact Nat.le_trans B6.out.size (Go.Proofs.YtpehbfghajlgmaaGreat.b1 _).size) (by have := HLT.out; have := HLD.out; rw [List.length_append]; simp only [List.length_singleton]; omega) ?_; (intro v7 w7 o7 hb7; have O7 := Lib.hid o7; have B7 : Hid (Below w2.heap.size w2 w7) := Lib.hid (B6.out.trans hb7); have S7 := HCW.out w7 B7.out; clear o7 hb7))
                    | (refine step_appS rfl _ _ 44 rfl w2.heap.size (R.take k) [n] _ _ rfl rfl (by first | exact O5.out | exact O5.out.alloc _) (by first | exact (OwnS.one n _).rd.src | exact (((OwnS.one n w2.drew).below C5.out).rd).src) (by first | exact B5.out.size | exact Nat.le_trans B5.out.size (Go.Proofs.YtpehbfghajlgmaaGreat.b1 _).size) (by have := HLT.out; simp only [List.length_singleton]; omega) ?_; (intro v6 w6 o6 hb6; have O6 := Lib.hid o6; have B6 : Hid (Below w2.heap.size w2 w6) := Lib.hid (by first | exact B5.out.trans hb6 | exact (B5.out.trans ((Go.Proofs.YtpehbfghajlgmaaGreat.b1 _).mono B5.out.size)).trans hb6); have S6 := HCW.out w6 B6.out; clear o6 hb6))
                    | (refine step_appS rfl _ _ 44 rfl _ [] (R.take k) _ _ rfl rfl (OwnS.empty _ _) (HS1.out _ (by first | exact (Below.refl _ _).drew | exact (Go.Proofs.YtpehbfghajlgmaaGreat.b1 _).drew | exact (Below.refl _ _).drew.trans (Go.Proofs.YtpehbfghajlgmaaGreat.b1 _))) (Nat.le_refl _) (by have := HLT.out; simp only [List.length_nil]; omega) ?_; (intro v5 w5 o5 hb5; rw [List.nil_append] at o5; have O5 : Hid (OwnS w2.heap.size (R.take k) v5 w5) := Lib.hid (o5.mono (by first | exact Nat.le_refl _ | exact (Go.Proofs.YtpehbfghajlgmaaGreat.b1 (a := w2) _).size)); have C5 := Lib.hid hb5; have B5 : Hid (Below w2.heap.size w2 w5) := Lib.hid (by first | exact (Below.refl _ _).drew.trans hb5 | exact ((Below.refl _ _).drew.trans (Go.Proofs.YtpehbfghajlgmaaGreat.b1 _)).trans (hb5.mono (Go.Proofs.YtpehbfghajlgmaaGreat.b1 (a := w2) _).size) | exact (Go.Proofs.YtpehbfghajlgmaaGreat.b1 _).drew.trans (hb5.mono (Go.Proofs.YtpehbfghajlgmaaGreat.b1 (a := w2) _).size)); have S5 := HCW.out w5 B5.out; clear o5 hb5)))
                  all_goals
                    go_wp2
                    refine ⟨⟨q + 1, R.take k ++ [n] ++ R.drop k, HQ.out, by go_num, Lib.hid (LsI.put HI1.out HLP.out (O7.out.mono (Nat.le_trans HBW.out.size B2.out.size)) (HBW.out.trans ((bgo B2.out B7.out).mono HBW.out.size)))⟩, by have := HQ.out; simp [intOf]; omega⟩
            · obtain rfl : k = R.length := by omega
              have HLP := Lib.hid (HPU.out R.length HK.out HJ.out (fun h => absurd h (Nat.lt_irrefl _)))
              clear HSM HJ
              by_cases hcc : oc = R.length
              · subst hcc
                go_wp2
                go_quiet (fail)
                go_wp2
                go_quiet (fail)
                have HWB : Hid (∀ m2, Below w1.heap.size w1 (w1.drewN m2)) := Lib.hid (fun m2 => below_drewN (Below.refl _ _) m2)
                generalize hW2 : World.drewN _ _ = w2 at *
                have B2 : Hid (Below w1.heap.size w1 w2) := Lib.hid (by rw [← hW2]; first | exact below_drewN (Below.refl _ _) _ | exact below_drewN (below_drewN (Below.refl _ _) _) _ | exact below_drewN (below_drewN (below_drewN (Below.refl _ _) _) _) _)
                clear hW2 HWB
                have e0 := HCN.out w2 B2.out
                have HS1 : Hid (∀ W, Below w2.heap.size w2 W → FromS (R.take R.length) 44 (.slice (some ⟨g, 0, none⟩) R.length R.length) W) := Lib.hid (fun W h => ((HRR.out.below (bgo B2.out h)).left HK.out).src)
                have HS3 : Hid (∀ W, Below w2.heap.size w2 W → FromS (R.drop R.length) 44 (.slice (some ⟨g, 0, none⟩) 0 0) W) := Lib.hid (fun W h => by rw [List.drop_length]; exact (RdS.nil _ 0 (by decide) W).src)
                have HCW : Hid (∀ W, Below w2.heap.size w2 W → W.cell? ⟨b, off + q * 4, none⟩ = some (.string n)) := Lib.hid (fun W h => HCN.out W (bgo B2.out h))
                have e1 := HCW.out w2.drew (below_drew (Below.refl _ _))
                have HLT : Hid ((R.take R.length).length ≤ 1000000) := Lib.hid (by rw [List.length_take]; have := HLR.out; omega)
                have HLD : Hid ((R.drop R.length).length ≤ 1000000) := Lib.hid (by rw [List.length_drop]; have := HLR.out; omega)
                go_wp2
                go_region_held3 (fun u => u.cell? ⟨b, off + q * 4, none⟩ = some (.string n)) (first | with_reducible assumption | go_keep) (first
                  | (refine step_appS rfl _ _ 44 rfl w2.heap.size (R.take R.length ++ [n]) (R.drop R.length) _ _ rfl rfl (by first | exact O6.out | exact O6.out.alloc _) (HS3.out _ (by first | exact B6.out | exact B6.out.trans ((Go.Proofs.YtpehbfghajlgmaaGreat.b1 _).mono B6.out.size))) (by first | exact B6.out.size | exact Nat.le_trans B6.out.size (Go.Proofs.YtpehbfghajlgmaaGreat.b1 _).size) (by have := HLT.out; have := HLD.out; rw [List.length_append]; simp only [List.length_singleton]; omega) ?_; (intro v7 w7 o7 hb7; have O7 := Lib.hid o7; have B7 : Hid (Below w2.heap.size w2 w7) := Lib.hid (B6.out.trans hb7); have S7 := HCW.out w7 B7.out; clear o7 hb7))
                  | (refine step_appS rfl _ _ 44 rfl w2.heap.size (R.take R.length) [n] _ _ rfl rfl (by first | exact O5.out | exact O5.out.alloc _) (by first | exact (OwnS.one n _).rd.src | exact (((OwnS.one n w2.drew).below C5.out).rd).src) (by first | exact B5.out.size | exact Nat.le_trans B5.out.size (Go.Proofs.YtpehbfghajlgmaaGreat.b1 _).size) (by have := HLT.out; simp only [List.length_singleton]; omega) ?_; (intro v6 w6 o6 hb6; have O6 := Lib.hid o6; have B6 : Hid (Below w2.heap.size w2 w6) := Lib.hid (by first | exact B5.out.trans hb6 | exact (B5.out.trans ((Go.Proofs.YtpehbfghajlgmaaGreat.b1 _).mono B5.out.size)).trans hb6); have S6 := HCW.out w6 B6.out; clear o6 hb6))
                  | (refine step_appS rfl _ _ 44 rfl _ [] (R.take R.length) _ _ rfl rfl (OwnS.empty _ _) (HS1.out _ (by first | exact (Below.refl _ _).drew | exact (Go.Proofs.YtpehbfghajlgmaaGreat.b1 _).drew | exact (Below.refl _ _).drew.trans (Go.Proofs.YtpehbfghajlgmaaGreat.b1 _))) (Nat.le_refl _) (by have := HLT.out; simp only [List.length_nil]; omega) ?_; (intro v5 w5 o5 hb5; rw [List.nil_append] at o5; have O5 : Hid (OwnS w2.heap.size (R.take R.length) v5 w5) := Lib.hid (o5.mono (by first | exact Nat.le_refl _ | exact (Go.Proofs.YtpehbfghajlgmaaGreat.b1 (a := w2) _).size)); have C5 := Lib.hid hb5; have B5 : Hid (Below w2.heap.size w2 w5) := Lib.hid (by first | exact (Below.refl _ _).drew.trans hb5 | exact ((Below.refl _ _).drew.trans (Go.Proofs.YtpehbfghajlgmaaGreat.b1 _)).trans (hb5.mono (Go.Proofs.YtpehbfghajlgmaaGreat.b1 (a := w2) _).size) | exact (Go.Proofs.YtpehbfghajlgmaaGreat.b1 _).drew.trans (hb5.mono (Go.Proofs.YtpehbfghajlgmaaGreat.b1 (a := w2) _).size)); have S5 := HCW.out w5 B5.out; clear o5 hb5)))
                all_goals
                  go_wp2
                  refine ⟨⟨q + 1, R.take R.length ++ [n] ++ R.drop R.length, HQ.out, by go_num, Lib.hid (LsI.put HI1.out HLP.out (O7.out.mono (Nat.le_trans HBW.out.size B2.out.size)) (HBW.out.trans ((bgo B2.out B7.out).mono HBW.out.size)))⟩, by have := HQ.out; simp [intOf]; omega⟩
              · have hcc2 : ¬ ((oc : Int) = (R.length : Int)) := by omega
                go_wp2
                go_quiet (fail)
                go_wp2
                go_quiet (fail)
                have HWB : Hid (∀ m2, Below w1.heap.size w1 (w1.drewN m2)) := Lib.hid (fun m2 => below_drewN (Below.refl _ _) m2)
                generalize hW2 : World.drewN _ _ = w2 at *
                have B2 : Hid (Below w1.heap.size w1 w2) := Lib.hid (by rw [← hW2]; first | exact below_drewN (Below.refl _ _) _ | exact below_drewN (below_drewN (Below.refl _ _) _) _ | exact below_drewN (below_drewN (below_drewN (Below.refl _ _) _) _) _)
                clear hW2 HWB
                have e0 := HCN.out w2 B2.out
                have HS1 : Hid (∀ W, Below w2.heap.size w2 W → FromS (R.take R.length) 44 (.slice (some ⟨g, 0, none⟩) R.length oc) W) := Lib.hid (fun W h => ((HRR.out.below (bgo B2.out h)).left HK.out).src)
                have HS3 : Hid (∀ W, Below w2.heap.size w2 W → FromS (R.drop R.length) 44 (.slice (some ⟨g, R.length, none⟩) 0 (oc - R.length)) W) := Lib.hid (fun W h => by rw [List.drop_length]; exact (RdS.nil _ _ (by have := HM4.out; unfold maxLen at *; omega) W).src)
                have HCW : Hid (∀ W, Below w2.heap.size w2 W → W.cell? ⟨b, off + q * 4, none⟩ = some (.string n)) := Lib.hid (fun W h => HCN.out W (bgo B2.out h))
                have e1 := HCW.out w2.drew (below_drew (Below.refl _ _))
                have HLT : Hid ((R.take R.length).length ≤ 1000000) := Lib.hid (by rw [List.length_take]; have := HLR.out; omega)
                have HLD : Hid ((R.drop R.length).length ≤ 1000000) := Lib.hid (by rw [List.length_drop]; have := HLR.out; omega)
                go_wp2
                go_region_held3 (fun u => u.cell? ⟨b, off + q * 4, none⟩ = some (.string n)) (first | with_reducible assumption | go_keep) (first
                  | (refine step_appS rfl _ _ 44 rfl w2.heap.size (R.take R.length ++ [n]) (R.drop R.length) _ _ rfl rfl (by first | exact O6.out | exact O6.out.alloc _) (HS3.out _ (by first | exact B6.out | exact B6.out.trans ((Go.Proofs.YtpehbfghajlgmaaGreat.b1 _).mono B6.out.size))) (by first | exact B6.out.size | exact Nat.le_trans B6.out.size (Go.Proofs.YtpehbfghajlgmaaGreat.b1 _).size) (by have := HLT.out; have := HLD.out; rw [List.length_append]; simp only [List.length_singleton]; omega) ?_; (intro v7 w7 o7 hb7; have O7 := Lib.hid o7; have B7 : Hid (Below w2.heap.size w2 w7) := Lib.hid (B6.out.trans hb7); have S7 := HCW.out w7 B7.out; clear o7 hb7))
                  | (refine step_appS rfl _ _ 44 rfl w2.heap.size (R.take R.length) [n] _ _ rfl rfl (by first | exact O5.out | exact O5.out.alloc _) (by first | exact (OwnS.one n _).rd.src | exact (((OwnS.one n w2.drew).below C5.out).rd).src) (by first | exact B5.out.size | exact Nat.le_trans B5.out.size (Go.Proofs.YtpehbfghajlgmaaGreat.b1 _).size) (by have := HLT.out; simp only [List.length_singleton]; omega) ?_; (intro v6 w6 o6 hb6; have O6 := Lib.hid o6; have B6 : Hid (Below w2.heap.size w2 w6) := Lib.hid (by first | exact B5.out.trans hb6 | exact (B5.out.trans ((Go.Proofs.YtpehbfghajlgmaaGreat.b1 _).mono B5.out.size)).trans hb6); have S6 := HCW.out w6 B6.out; clear o6 hb6))
                  | (refine step_appS rfl _ _ 44 rfl _ [] (R.take R.length) _ _ rfl rfl (OwnS.empty _ _) (HS1.out _ (by first | exact (Below.refl _ _).drew | exact (Go.Proofs.YtpehbfghajlgmaaGreat.b1 _).drew | exact (Below.refl _ _).drew.trans (Go.Proofs.YtpehbfghajlgmaaGreat.b1 _))) (Nat.le_refl _) (by have := HLT.out; simp only [List.length_nil]; omega) ?_; (intro v5 w5 o5 hb5; rw [List.nil_append] at o5; have O5 : Hid (OwnS w2.heap.size (R.take R.length) v5 w5) := Lib.hid (o5.mono (by first | exact Nat.le_refl _ | exact (Go.Proofs.YtpehbfghajlgmaaGreat.b1 (a := w2) _).size)); have C5 := Lib.hid hb5; have B5 : Hid (Below w2.heap.size w2 w5) := Lib.hid (by first | exact (Below.refl _ _).drew.trans hb5 | exact ((Below.refl _ _).drew.trans (Go.Proofs.YtpehbfghajlgmaaGreat.b1 _)).trans (hb5.mono (Go.Proofs.YtpehbfghajlgmaaGreat.b1 (a := w2) _).size) | exact (Go.Proofs.YtpehbfghajlgmaaGreat.b1 _).drew.trans (hb5.mono (Go.Proofs.YtpehbfghajlgmaaGreat.b1 (a := w2) _).size)); have S5 := HCW.out w5 B5.out; clear o5 hb5)))
                all_goals
                  go_wp2
                  refine ⟨⟨q + 1, R.take R.length ++ [n] ++ R.drop R.length, HQ.out, by go_num, Lib.hid (LsI.put HI1.out HLP.out (O7.out.mono (Nat.le_trans HBW.out.size B2.out.size)) (HBW.out.trans ((bgo B2.out B7.out).mono HBW.out.size)))⟩, by have := HQ.out; simp [intOf]; omega⟩
    · obtain rfl : q = L.length := by omega
      have hi := HI.out
      unfold LsI at hi
      rw [List.take_length] at hi
      have HI2 := Lib.hid hi
      clear hi
      go_wp2
      go_ret
      exact ⟨_, R, rfl, HI2.out.2.1, HI2.out.1, HI2.out.2.2.2.2⟩
theorem keepsU : Keeps (fun _ _ _ => True) := ⟨trivial, fun _ _ _ _ => trivial, fun _ => trivial, fun _ _ _ _ => trivial, fun _ _ _ _ _ => trivial⟩
theorem RdS.shapeU {L : List ByteArray} {v : Value} {w : World} (h : RdS L v w) : ∃ a cap, v = .slice a L.length cap ∧ L.length ≤ 9223372036854775807 := by
  obtain ⟨a, cap, rfl, h1, h2, _⟩ := h
  exact ⟨a, cap, rfl, by unfold maxLen at h2; omega⟩
set_option maxRecDepth 100000 in
set_option maxHeartbeats 4000000 in
theorem looks_any (L : List Bg) (v : Value) (P : List Pn) (pv : Value) (nm : ByteArray) (c : Int) (w : World) (hv : RdBg L v w) (hL : L.length ≤ 1000000) (hp : RdPn P pv w) (hP : P.length ≤ 1000000) :
    Calls Tryz.prog 6 #[v, pv, .string nm, .int .i64 c] w fun e w' => e = .returned (.bool true) ∧ Below w.heap.size w w' := by
  have HPL := Lib.hid (fun (w' : World) (h : Below w.heap.size w w') => plook_any L v nm c w' (hv.below h) (by omega))
  have HRL := Lib.hid (fun (w' : World) (h : Below w.heap.size w w') => rlook_any L v nm c w' (hv.below h) (by omega))
  have HPS := Lib.hid (fun (w' : World) (h : Below w.heap.size w w') => plist_any L v c w' (hv.below h) hL)
  have HRS := Lib.hid (fun (w' : World) (h : Below w.heap.size w w') => rlist_any L v c w' (hv.below h) hL)
  have HPV := Lib.hid (fun (w' : World) (h : Below w.heap.size w w') => pvalb_any L v w' (hv.below h) hL)
  have HRV := Lib.hid (fun (w' : World) (h : Below w.heap.size w w') => rvalb_any L v w' (hv.below h) (by omega))
  have HPP := Lib.hid (fun (w' : World) (h : Below w.heap.size w w') => pprune_any L v P pv w' (hv.below h) hL (hp.below h) (by omega))
  have HRP := Lib.hid (fun (w' : World) (h : Below w.heap.size w w') => rprune_any L v P pv w' (hv.below h) hL (hp.below h) (by omega))
  have HXL : Hid ((prnB P L).length ≤ 1000000) := Lib.hid (by have := prnB_len P L; omega)
  obtain ⟨a, cap, rfl⟩ := hv.shape
  obtain ⟨pa, pc, rfl⟩ := hp.shape
  clear hv hp hL hP
  generalize lokO L nm c = ov at *
  generalize (lokB L nm c).isSome = ob at *
  generalize valB L = ev at *
  go_enter Tryz.func6, Tryz.ntmps6
  go_upto_region 4 with (first
    | (go_at_call 11; refine (HPL.out _ (Below.refl _ _)).mono ?_; rintro e w1 ⟨rfl, hb⟩; have B1 := Lib.hid hb; clear hb)
    | (go_at_call 15; refine (HRL.out _ B1.out).mono ?_; rintro e w2 ⟨rfl, hb⟩; have B2 := Lib.hid (bgo B1.out hb); clear hb)
    | (go_at_call 16; refine (HPS.out _ B2.out).mono ?_; rintro e w3 ⟨va, R, rfl, ho, hl, hb⟩; have HSA3 := Lib.hid ho.rd; have HLS := Lib.hid hl; have B3 := Lib.hid (bgo B2.out hb); clear ho hl hb)
    | (go_at_call 17; refine (HRS.out _ B3.out).mono ?_; rintro e w4 ⟨vb, T, rfl, ho, hl, hb⟩; have hRT := HLS.out.uniq hl; subst hRT; have HSB := Lib.hid ho.rd; have HSA := Lib.hid (HSA3.out.below hb); have B4 := Lib.hid (bgo B3.out hb); clear ho hl hb))
  obtain ⟨aa, ca, rfl, hSL⟩ := HSA.out.shapeU
  obtain ⟨ab, cb, rfl, -⟩ := HSB.out.shapeU
  clear HPL HRL HPS HRS HSA3
  go_wp2_with (first
    | (go_at_call 18; refine (HPV.out _ B4.out).mono ?_; rintro e w5 ⟨rfl, hb⟩; have G5 := Lib.hid hb; have B5 := Lib.hid (bgo B4.out hb); clear hb)
    | (go_at_call 19; refine (HRV.out _ B5.out).mono ?_; rintro e w6 ⟨rfl, hb⟩; have G6 := Lib.hid (bgo G5.out hb); have B6 := Lib.hid (bgo B5.out hb); clear hb))
  have HA6 := Lib.hid (HSA.out.below G6.out)
  have HB6 := Lib.hid (HSB.out.below G6.out)
  go_loopw [15] (fun i wr => ∃ y : Nat, y ≤ R.length ∧ i = .int .i64 (y : Int) ∧ Hid (Below w6.heap.size w6 wr)) (fun i _ => R.length - (intOf i).toNat)
  case atStart => exact ⟨0, by omega, by go_num, Lib.hid (Below.refl _ _)⟩
  case round =>
    obtain ⟨y, hy, rfl, HB2⟩ := hrel
    by_cases hylt : y < R.length
    · have hyi : (y : Int) < (R.length : Int) := by omega
      have HYL := Lib.hid hylt
      obtain ⟨ba, oa, rfl, -, d0⟩ := (HA6.out.below HB2.out).atq hylt
      obtain ⟨bb, ob2, rfl, -, d1⟩ := (HB6.out.below HB2.out).atq hylt
      generalize R.getD y ByteArray.empty = ns at *
      go_wp2
      go_quiet (fail)
      go_wp2
      go_roundw
      case rel => exact ⟨y + 1, HYL.out, by go_num, Lib.hid (below_drewN HB2.out _)⟩
      case measure => have := HYL.out; simp [intOf]; omega
    · obtain rfl : y = R.length := by omega
      have BW := Lib.hid (bgo B6.out HB2.out)
      go_wp2_with (first
        | (go_at_call 21; refine (HPP.out _ BW.out).mono ?_; rintro e w7 ⟨vx, rfl, ho, hb⟩; have HX7 := Lib.hid ho.rd; have B7 := Lib.hid (bgo BW.out hb); clear ho hb)
        | (go_at_call 22; refine (HRP.out _ B7.out).mono ?_; rintro e w8 ⟨vy, rfl, ho, hb⟩; have HY8 := Lib.hid ho.rd; have HX8 := Lib.hid (HX7.out.below hb); have B8 := Lib.hid (bgo B7.out hb); clear ho hb)
        | (go_at_call 20; refine (rsameb_any _ _ _ _ HX8.out HY8.out HXL.out).mono ?_; rintro e w9 ⟨rfl, hb⟩; have B9 := Lib.hid (bgo B8.out hb); clear hb))
      go_ret
      exact ⟨rfl, B9.out⟩
set_option maxRecDepth 100000 in
set_option maxHeartbeats 8000000 in
theorem directoryLooks_walk (a0 : Option Addr) (len0 cap0 : Nat) (z0 : List Bg) (a1 : Option Addr) (len1 cap1 : Nat) (z1 : List Int) (a2 : Int) (a3 : Option Addr) (len3 cap3 : Nat) (z3 : List Pn) (a4 : ByteArray) (a5 : Int) (W : World)
    (w0 : InBg W a0 len0 cap0 z0) (w1 : InRow .i64 W a1 len1 cap1 z1) (w2 : (Lit.int .i64 a2).wf = true) (w3 : InPn W a3 len3 cap3 z3) (w4 : a4.size ≤ maxLen) (w5 : (Lit.int .i64 a5).wf = true) :
    Calls Tryz.prog 3 #[.slice a0 len0 cap0, .slice a1 len1 cap1, .int .i64 a2, .slice a3 len3 cap3, .string a4, .int .i64 a5] W fun e w' => e = .returned (.bool true) ∧ Below W.heap.size W w' := by
  have hmade := made18_any (fun _ _ _ => True) keepsU (z1.take len1) _ W (inRow_rdJ w1)
  have HSP := Lib.hid (fun (M : List Bg) (u : Value) (w : World) (h : RdBg M u w) (hl : M.length ≤ 1000) => spoil_any M u a2 w h hl)
  have hrb := inBg_rd w0
  have hrp := inPn_rd w3
  have hl0 : (z0.take len0).length = len0 := by rw [List.length_take]; have := w0.1; have := w0.2.2.1; omega
  have hl3 : (z3.take len3).length = len3 := by rw [List.length_take]; have := w3.1; have := w3.2.2.1; omega
  have hm0 : len0 ≤ 9223372036854775807 := by have h1 := w0.1; have h2 := w0.2.1; unfold maxLen at h2; omega
  have hm3 : len3 ≤ 9223372036854775807 := by have h1 := w3.1; have h2 := w3.2.1; unfold maxLen at h2; omega
  have hm4 : a4.size ≤ 9223372036854775807 := by have h2 := w4; unfold maxLen at h2; omega
  generalize z0.take len0 = L at hrb hl0
  generalize z3.take len3 = P at hrp hl3
  clear w0 w1 w2 w3 w4 w5
  subst hl0 hl3
  have HKN := Lib.hid (fun w => known18_any w)
  have m1 := bmask4 (a2 / 4096)
  have m2 := bmask2 (a2 / 65536)
  have m3 := bmask4 (a2 / 262144)
  have r1 : 0 ≤ a2 / 4096 % 16 ∧ a2 / 4096 % 16 ≤ 15 := by omega
  generalize a2 / 4096 % 16 = x1 at *
  generalize a2 / 65536 % 4 = x2 at *
  generalize a2 / 262144 % 16 = x3 at *
  have HX1 := Lib.hid r1
  clear r1
  have HRB := Lib.hid hrb
  have HRP := Lib.hid hrp
  clear hrb hrp
  by_cases h1 : 20 < (L.length : Int)
  · go_enter Tryz.func3, Tryz.ntmps3
    go_wp2_with (go_at_call 4; refine (HKN.out _).mono ?_; rintro e u9 ⟨rfl, hb⟩; have B9 := Lib.hid hb; clear hb)
    go_ret
    exact ⟨rfl, B9.out⟩
  · by_cases h2 : 20 < (P.length : Int)
    · go_enter Tryz.func3, Tryz.ntmps3
      go_wp2_with (go_at_call 4; refine (HKN.out _).mono ?_; rintro e u9 ⟨rfl, hb⟩; have B9 := Lib.hid hb; clear hb)
      go_ret
      exact ⟨rfl, B9.out⟩
    · by_cases h3 : 100 < (a4.size : Int)
      · go_enter Tryz.func3, Tryz.ntmps3
        go_wp2_with (go_at_call 4; refine (HKN.out _).mono ?_; rintro e u9 ⟨rfl, hb⟩; have B9 := Lib.hid hb; clear hb)
        go_ret
        exact ⟨rfl, B9.out⟩
      · have HL2 : Hid (L.length ≤ 20) := Lib.hid (by omega)
        have HLK := Lib.hid (fun (w' : World) (h : Below W.heap.size W w') => looks_any L _ P _ a4 a5 w' (HRB.out.below h) (by have := HL2.out; omega) (HRP.out.below h) (by omega))
        have HMD := Lib.hid hmade
        clear hmade
        go_enter Tryz.func3, Tryz.ntmps3
        go_wp2
        go_loopw [13] (fun i wr => ∃ q : Nat, q ≤ L.length ∧ i = .int .i64 (q : Int) ∧ wr = W) (fun i _ => L.length - (intOf i).toNat)
        case atStart => exact ⟨0, by omega, by go_num, rfl⟩
        case round =>
          obtain ⟨q, hq, rfl, rfl⟩ := hrel
          by_cases hlt : q < L.length
          · have hqi : (q : Int) < (L.length : Int) := by omega
            have HQL := Lib.hid hlt
            obtain ⟨b, off, rfl, hbl, c0, -, -, -⟩ := HRB.out.at_ hlt
            have hns : (L.getD q Bg.z).n.size ≤ maxLen := (HRB.out.1.at_ q).1
            generalize (L.getD q Bg.z).n = ns at *
            have hns2 : ns.size ≤ 9223372036854775807 := by unfold maxLen at hns; omega
            by_cases h4 : 100 < (ns.size : Int)
            · go_wp2_with (go_at_call 4; refine (HKN.out _).mono ?_; rintro e u9 ⟨rfl, hb⟩; have B9 := Lib.hid hb; clear hb)
              go_ret
              exact ⟨rfl, B9.out⟩
            · go_wp2
              go_roundw
              case rel => exact ⟨q + 1, HQL.out, by go_num, by first | trivial | rfl⟩
              case measure => have := HQL.out; simp [intOf]; omega
          · obtain rfl : q = L.length := by omega
            go_wp2_with (first
              | (go_at_call 5; refine HMD.out.mono ?_; rintro e u1 ⟨M, u, cc, hl, rfl, hc, ho, -, hb⟩; have HO1 := Lib.hid ho.rd; have B1 := Lib.hid hb; have HL := Lib.hid hl; clear ho hb hl hc)
              | (go_at_call 6; (with_reducible refine (HLK.out _ B1.out).mono ?_); rintro e u2 ⟨rfl, hb⟩; have HO2 := Lib.hid (HO1.out.below hb); have B2 := Lib.hid (bgo B1.out hb); clear hb)
              | (go_at_call 7; refine (HSP.out M u u2 HO2.out (by have := HL.out; omega)).mono ?_; rintro e u3 ⟨v, N, rfl, hr, hn, hb⟩; have HR3 := Lib.hid hr; have HN : Hid (N.length ≤ 1000) := Lib.hid (by have := HL.out; omega); have B3 := Lib.hid (bgo B2.out hb); have HPN := Lib.hid ((OwnPn.one (x := ⟨x1, 1⟩) ⟨by have := HX1.out; show -9223372036854775808 ≤ x1 ∧ x1 ≤ 9223372036854775807; omega, by show (-9223372036854775808 : Int) ≤ 1 ∧ (1 : Int) ≤ 9223372036854775807; decide⟩ u3).rd); clear hr hn hb)
              | (go_at_call 8; refine (bname_any _ _).mono ?_; rintro e u4 ⟨nm, rfl, -, hb⟩; have HR4 := Lib.hid ((HR3.out.below (b1 _)).below hb); have HP4 := Lib.hid (HPN.out.below hb); have B4 := Lib.hid (bgo (bal B3.out _) hb); clear hb)
              | (go_at_call 6; refine (looks_any N v [⟨x1, 1⟩] _ nm _ u4 HR4.out (by have := HN.out; omega) HP4.out (by simp)).mono ?_; rintro e u5 ⟨rfl, hb⟩; have B5 := Lib.hid (bgo B4.out hb); clear hb)
              | (go_at_call 4; refine (HKN.out _).mono ?_; rintro e u9 ⟨rfl, hb⟩; have B9 := Lib.hid (bgo B5.out hb); clear hb))
            go_ret
            exact ⟨rfl, B9.out⟩
end Go.Proofs.YtpehbfghajlgmaaGreat
