/- The contract of the reference's settle. -/
import Derived.Test.YtdifilhfmbpalaaDoorRRkB
import Derived.Test.YtdifilhfmbpalaaDoorRkH
import Derived.Test.YtdifilhfmbpalaaDoorRkS
import Derived.Test.YtdifilhfmbpalaaDoorCoins
namespace Go.Proofs.YtdifilhfmbpalaaDoor
open Go.RowKit
set_option linter.unusedVariables false
set_option linter.unusedSimpArgs false
/-- What is settled up to level i, and what is carried. -/
structure RT (S : Int) (Z : List Int) (L : List (List ByteArray)) (K a : Int) (i : Nat) (P : List (List ByteArray)) (c : List ByteArray) (K' a' : Int) : Prop where
  eq : stl S Z 0 L K a = (P ++ (stl S Z i (addC (L.drop i) c) K' a').1, (stl S Z i (addC (L.drop i) c) K' a').2)
  il : P.length = i
  cl : c.length ≤ 62
  a0 : 0 ≤ a'
  a1 : a' ≤ 1073741824 + i
  k0 : 0 ≤ K'
  k1 : K' ≤ 1099511627776
theorem addC_at {L : List (List ByteArray)} {i : Nat} {c : List ByteArray} (h : i < L.length ∨ c ≠ []) : addC (L.drop i) c = (L.getD i [] ++ c) :: L.drop (i + 1) := by
  by_cases hi : i < L.length
  · rw [drop_getD (d := []) hi]
    rfl
  · rcases h with h | h
    · exact absurd h hi
    · rw [List.drop_eq_nil_of_le (by omega), List.drop_eq_nil_of_le (by omega), show L.getD i [] = [] by simp [List.getD, List.getElem?_eq_none (show L.length ≤ i by omega)]]
      cases c with
      | nil => exact absurd rfl h
      | cons x c => rfl
section
variable {S : Int} {Z : List Int} {L : List (List ByteArray)} {K a : Int} {i : Nat} {P : List (List ByteArray)} {c : List ByteArray} {K' a' : Int}
theorem RT.start (Z : List Int) (S : Int) (L : List (List ByteArray)) (ha0 : 0 ≤ a) (ha1 : a ≤ 1073741824) (k0 : 0 ≤ K) (k1 : K ≤ 1099511627776) : RT S Z L K a 0 [] [] K a :=
  ⟨by rw [List.drop_zero, addC_nil]; simp, rfl, by simp, ha0, by omega, k0, k1⟩
theorem RT.low (h : RT S Z L K a i P c K' a') (hc : i < L.length ∨ c ≠ []) (hl : ((L.getD i [] ++ c).length : Int) < S) : RT S Z L K a (i + 1) (P ++ [sortK (L.getD i [] ++ c)]) [] K' a' := by
  refine ⟨?_, by simp [h.il], by simp, h.a0, by have := h.a1; omega, h.k0, h.k1⟩
  rw [h.eq, addC_at hc, stl_low _ _ _ _ _ hl, addC_nil]
  simp
theorem RT.full (h : RT S Z L K a i P c K' a') (s0 : 2 ≤ S) (hc : i < L.length ∨ c ≠ []) (hn : (L.getD i []).length ≤ 62) (hl : S ≤ ((L.getD i [] ++ c).length : Int)) : RT S Z L K a (i + 1) (P ++ [rst (sortK (L.getD i [] ++ c))]) (pick (bitI Z a').toNat (sortK (L.getD i [] ++ c))) (aS K' (2 ^ i)) (a' + 1) := by
  refine ⟨?_, by simp [h.il], ?_, by have := h.a0; omega, by have := h.a1; omega, (aS_bd _ _).1, (aS_bd _ _).2⟩
  · rw [h.eq, addC_at hc, stl_full _ _ _ _ _ hl s0]
    simp
  · rw [pick_len, sortK_len, List.length_append]
    have := h.cl
    omega
theorem RT.done (h : RT S Z L K a i P [] K' a') (hi : L.length ≤ i) : stl S Z 0 L K a = (P, K', a') := by
  rw [h.eq, List.drop_eq_nil_of_le hi, addC_nil, stl_nil]
  simp
theorem RT.bound (h : RT S Z L K a i P c K' a') (s0 : 2 ≤ S) (hc : i < L.length ∨ c ≠ []) (h41 : (stl S Z 0 L K a).1.length ≤ 41) : i ≤ 40 := by
  rw [h.eq, addC_at hc] at h41
  have hne : 0 < (stl S Z i ((L.getD i [] ++ c) :: L.drop (i + 1)) K' a').1.length := by
    rcases Int.lt_or_le ((L.getD i [] ++ c).length : Int) S with hl | hl
    · rw [stl_low _ _ _ _ _ hl]; simp
    · rw [stl_full _ _ _ _ _ hl s0]; simp
  rw [List.length_append, h.il] at h41
  omega
end
/-- The memory of the reference's settle. -/
def RM (W : World) (P : List (List ByteArray)) (us : List Value) (vo : Value) (c : List ByteArray) (vc : Value) (w : World) : Prop := MixL W W.heap.size P us vo w ∧ OwnS W.heap.size c vc w ∧ Below W.heap.size W w
theorem RM.go {W w w' : World} {P : List (List ByteArray)} {us : List Value} {vo : Value} {c : List ByteArray} {vc : Value} (h : RM W P us vo c vc w) (hb : Below w.heap.size w w') : RM W P us vo c vc w' := ⟨h.1.below hb, h.2.1.below hb, bgo h.2.2 hb⟩
theorem RM.bel {W w : World} {P : List (List ByteArray)} {us : List Value} {vo : Value} {c : List ByteArray} {vc : Value} (h : RM W P us vo c vc w) : Below W.heap.size W w := h.2.2
theorem RM.nilc {W w : World} {P : List (List ByteArray)} {us : List Value} {vo : Value} {c : List ByteArray} {vc : Value} (h : RM W P us vo c vc w) : RM W P us vo [] (.slice none 0 0) w := ⟨h.1, OwnS.empty _ _, h.2.2⟩
theorem RM.newc {W w : World} {P : List (List ByteArray)} {us : List Value} {vo : Value} {c d : List ByteArray} {vc vd : Value} {B : Nat} (h : RM W P us vo c vc w) (hd : OwnS B d vd w) (hB : W.heap.size ≤ B) : RM W P us vo d vd w := ⟨h.1, hd.mono hB, h.2.2⟩
theorem RM.snoc {W w w' : World} {P : List (List ByteArray)} {us : List Value} {vo : Value} {c : List ByteArray} {vc : Value} {l : List ByteArray} {u vo' : Value} (h : RM W P us vo c vc w) (hu : RowT W W.heap.size l u w) (hv : OwnV W.heap.size (us ++ [u]) vo' w') (hl : Lone vo w w') (hb : Below W.heap.size w w') : RM W (P ++ [l]) (us ++ [u]) vo' c vc w' :=
  ⟨h.1.snoc hu hv hl, row_lone h.2.1 h.1.1.2 (by decide) hl, h.2.2.trans hb⟩
set_option maxRecDepth 100000 in
set_option maxHeartbeats 4000000 in
theorem rsettle_any (L : List (List ByteArray)) (vl vb : Value) (Z : List Int) (S a K : Int) (w : World)
    (h : RdL L vl w) (hZ : Rd Z vb w) (s0 : 2 ≤ S) (s1 : S ≤ 32) (ha0 : 0 ≤ a) (ha1 : a ≤ 1073741824) (k0 : 0 ≤ K) (k1 : K ≤ 1099511627776) (h41 : (stl S Z 0 L K a).1.length ≤ 41) (hle : lastE L = false) (hn : ∀ l ∈ L, l.length ≤ 62) (hl : L.length ≤ 41) :
    Calls Tryd.prog 41 #[vl, .int .i64 S, .int .i64 K, vb, .int .i64 a] w fun e w' =>
      ∃ u, e = .returned (.tuple #[u, .int .i64 (stl S Z 0 L K a).2.1, .int .i64 (stl S Z 0 L K a).2.2]) ∧ RdB w.heap.size (stl S Z 0 L K a).1 u w' ∧ Below w.heap.size w w' := by
  obtain ⟨al, cl, rfl⟩ := h.shape
  have HR := Lib.hid h
  have HZ := Lib.hid hZ
  have HN := Lib.hid (fun i => getD_all (p := fun l => l.length ≤ 62) hn (Nat.zero_le _) i)
  have HX := Lib.hid h41
  have HLE : Hid (lastE (stl S Z 0 L K a).1 = false) := Lib.hid (stl_last s0 0 L K a hle).1
  have T0 := Lib.hid (RT.start (K := K) (a := a) Z S L ha0 ha1 k0 k1)
  have M0 : Hid (RM w [] [] (.slice none 0 0) [] (.slice none 0 0) w) := Lib.hid ⟨MixL.empty _ _ _, OwnS.empty _ _, Below.refl _ _⟩
  clear h hZ hn h41 hle
  go_enter Tryd.func41, Tryd.ntmps41
  go_wp2
  go_loopw [2, 4, 13, 14, 15] (fun vk va vo vcy vi wr => ∃ (i : Nat) (P : List (List ByteArray)) (us : List Value) (c : List ByteArray) (K1 a1 : Int), vk = .int .i64 K1 ∧ va = .int .i64 a1 ∧ vi = .int .i64 (i : Int) ∧ Hid (RT S Z L K a i P c K1 a1) ∧ Hid (RM w P us vo c vcy wr)) (fun _ _ _ _ vi _ => 50 - (intOf vi).toNat)
  case atStart => exact ⟨0, [], [], [], K, a, rfl, rfl, rfl, T0, M0⟩
  case round =>
    clear T0 M0
    obtain ⟨i, P, us, c, K1, a1, rfl, rfl, rfl, HT, HM⟩ := hrel
    obtain ⟨ac, cc, rfl⟩ := HM.out.2.1.rd.shape
    obtain ⟨ao, co, rfl⟩ := HM.out.1.1.rd.shape
    by_cases hc : i < L.length ∨ c ≠ []
    · have h40 := HT.out.bound s0 hc HX.out
      have hX : (L.getD i [] ++ c).length ≤ 124 := by
        rw [List.length_append]
        have := HN.out i
        have := HT.out.cl
        omega
      obtain ⟨b, hb⟩ : ∃ b, (bitI Z a1).toNat = b := ⟨_, rfl⟩
      have hb1 := bitI_nat Z a1
      have HBI : Hid (bitI Z a1 = (b : Int)) := Lib.hid (by rw [← hb]; exact bitI_cast Z a1)
      rw [hb] at hb1
      have HLOW : Hid (((sortK (L.getD i [] ++ c)).length : Int) < S → RT S Z L K a (i + 1) (P ++ [sortK (L.getD i [] ++ c)]) [] K1 a1) := Lib.hid (fun h => HT.out.low hc (by rw [sortK_len] at h; exact h))
      have HFUL : Hid (S ≤ ((sortK (L.getD i [] ++ c)).length : Int) → RT S Z L K a (i + 1) (P ++ [rst (sortK (L.getD i [] ++ c))]) (pick b (sortK (L.getD i [] ++ c))) (aS K1 (2 ^ i)) (a1 + 1)) := Lib.hid (fun h => by
        rw [← hb]
        exact HT.out.full s0 hc (HN.out i) (by rw [sortK_len] at h; exact h))
      have hm : (sortK (L.getD i [] ++ c)).length ≤ 124 := by rw [sortK_len]; exact hX
      have HSR := Lib.hid (fun v w1 (h : RdS (L.getD i [] ++ c) v w1) => rsorted_any (L.getD i [] ++ c) v w1 h (by omega))
      have HKA : Hid ((0 ≤ a1 ∧ a1 ≤ 1073741865) ∧ 0 ≤ K1 ∧ K1 ≤ 1099511627776) := Lib.hid ⟨⟨HT.out.a0, by have := HT.out.a1; omega⟩, HT.out.k0, HT.out.k1⟩
      have HIL : Hid (us.length = i) := Lib.hid (by rw [HM.out.1.2.1, HT.out.il])
      have HCN : Hid (c.length ≤ 62 ∧ (L.getD i []).length ≤ 62) := Lib.hid ⟨HT.out.cl, HN.out i⟩
      have hcl : i < L.length ∨ 0 < c.length := by
        rcases hc with h | h
        · exact .inl h
        · exact .inr (List.length_pos_iff.2 h)
      obtain ⟨l0, hl0⟩ : ∃ l0, L.getD i [] = l0 := ⟨_, rfl⟩
      rw [hl0] at HLOW HFUL hm HSR HCN
      generalize sortK (l0 ++ c) = m at *
      have HL0 := Lib.hid hl0
      clear HT hb hX hc hl0
      rcases Nat.lt_or_ge i L.length with hi | hi
      have hi2 : (i : Int) < (L.length : Int) := by omega
      obtain ⟨bl, ol, ul, ml, cul, rfl, -, hbl, hcc, hrr, -⟩ := HR.out.at_ hi
      have hcc2 := ((bcell HM.out.2.2).1 bl _ hbl).trans hcc
      rw [HL0.out] at hrr
      have HRR := Lib.hid (fun w1 (hb : Below w.heap.size w w1) => (hrr.below hb).src)
      clear hcc hrr
      go_upto_region 10 with (first
        | (at_builtin; refine wp_appS rfl _ _ _ rfl wr.heap.size [] l0 _ _ rfl rfl (OwnS.empty _ _) (HRR.out _ HM.out.2.2) (Nat.le_refl _) (by have := HCN.out.2; rw [List.length_nil]; omega) ?_; intro v7 w7 ho7 hb7; rw [List.nil_append] at ho7; have B7 := Lib.hid hb7; have M7 := Lib.hid (HM.out.go hb7); have O7 := Lib.hid ho7; clear ho7 hb7)
        | (at_builtin; refine wp_appS rfl _ _ _ rfl wr.heap.size l0 c _ _ rfl rfl O7.out M7.out.2.1.rd.src B7.out.size (by have := HCN.out; omega) ?_; intro v8 w8 ho8 hb8; have M8 := Lib.hid (HM.out.go (B7.out.trans hb8)); have R8 := Lib.hid ho8.rd; clear ho8 hb8)
        | (go_at_call 72; (with_reducible refine (HSR.out _ _ R8.out).mono ?_); rintro e w9 ⟨u9, rfl, ho9, hb9⟩; obtain ⟨a9, c9, rfl⟩ := ho9.rd.shape; have M9 := Lib.hid (M8.out.go hb9); have O9 := Lib.hid (ho9.mono M8.out.2.2.size); clear ho9 hb9))
      rotate_left
      have hi2 : ¬ (i : Int) < (L.length : Int) := by omega
      have hi3 : (0 : Int) < (c.length : Int) := by omega
      have R8 : Hid (RdS (l0 ++ c) (.slice ac c.length cc) wr) := Lib.hid (by
        rw [show l0 = [] by rw [← HL0.out]; simp [List.getD, List.getElem?_eq_none (show L.length ≤ i by omega)], List.nil_append]
        exact HM.out.2.1.rd)
      go_upto_region 10 with (go_at_call 72; (with_reducible refine (HSR.out _ _ R8.out).mono ?_); rintro e w9 ⟨u9, rfl, ho9, hb9⟩; obtain ⟨a9, c9, rfl⟩ := ho9.rd.shape; have M9 := Lib.hid (HM.out.go hb9); have O9 := Lib.hid (ho9.mono HM.out.2.2.size); clear ho9 hb9)
      all_goals
        rcases Int.lt_or_le (m.length : Int) S with hS | hS
        · have MA := Lib.hid (M9.out.go (b1 (.cells #[.slice a9 m.length c9] 57)))
          have OA := Lib.hid (O9.out.below (b1 (.cells #[.slice a9 m.length c9] 57)))
          clear HFUL HSR HN HX HLE
          go_wp2_with (at_builtin; refine wp_appV rfl _ _ _ rfl w.heap.size us [.slice a9 m.length c9] _ _ rfl rfl MA.out.1.1 (OwnV.one rfl w9).rd.src MA.out.2.2.size (by have := HIL.out; simp; omega) ?_; intro v10 w10 ho10 hb10 hl10; have M10 := Lib.hid (MA.out.nilc.snoc (RowT.own OA.out (Nat.le_refl _)) ho10 hl10 hb10); clear ho10 hb10 hl10)
          exact ⟨⟨i + 1, P ++ [m], us ++ [.slice a9 m.length c9], [], K1, a1, rfl, rfl, by go_num, Lib.hid (HLOW.out hS), M10⟩, by simp [intOf]; omega⟩
        · have hS2 : ¬ (m.length : Int) < S := by omega
          have HSM : Hid (∀ w1, Calls Tryd.prog 39 #[.int .i64 K1, .int .i64 (2 ^ i)] w1 fun e w' => e = .returned (.tuple #[.int .i64 (aS K1 (2 ^ i)), .bool (aF K1 (2 ^ i))]) ∧ w1 = w') := Lib.hid (fun w1 => by
            have hp := pow40 h40
            have h := HKA.out
            have e : (2 : Int) ^ i = ((2 ^ i : Nat) : Int) := by simp
            rw [e]
            generalize 2 ^ i = q at *
            exact rsumR_any K1 q w1 (by omega) (by omega) (by omega) (by omega))
          have HBT : Hid (∀ w1, Below w.heap.size w w1 → Calls Tryd.prog 73 #[vb, .int .i64 a1] w1 fun e w' => e = .returned (.int .i64 (b : Int)) ∧ w1 = w') := Lib.hid (fun w1 hb => by
            have h := HKA.out
            rw [← HBI.out]
            exact rbit_any Z vb a1 w1 (by omega) (by omega) (HZ.out.below hb))
          have hsh : IntKind.i64.wrap ((1 : Int) * 2 ^ i) = 2 ^ i := by
            have h := wr_mul 1 i (by have := pow40 h40; omega)
            simpa using h
          have hsh2 : IntKind.i64.wrap ((2 : Int) ^ i) = 2 ^ i := by rw [Int.one_mul] at hsh; exact hsh
          obtain ⟨H, hH⟩ : ∃ H, H = m.length / 2 := ⟨_, rfl⟩
          have HH := Lib.hid hH
          have hq1 : (m.length : Int) / 2 = (H : Int) := by omega
          have HP : Hid (pickn b m H = pick b m) := Lib.hid (by rw [hH]; rfl)
          clear hH HLOW HN HX HLE HSR
          go_wp2_with (go_at_call 73; (with_reducible refine (HBT.out _ M9.out.bel).mono ?_); rintro e w' ⟨rfl, rfl⟩)
          go_loopw [14, 18] (fun vcy vk wr2 => ∃ t : Nat, t ≤ H ∧ vk = .int .i64 ((b + 2 * t : Nat) : Int) ∧ Hid (OwnS w9.heap.size (pickn b m t) vcy wr2 ∧ Below w9.heap.size w9 wr2)) (fun _ vk _ => 2 * H + 2 - (intOf vk).toNat)
          case atStart => exact ⟨0, by omega, by simp, Lib.hid ⟨OwnS.empty _ _, Below.refl _ _⟩⟩
          case round =>
            obtain ⟨t, ht, rfl, HI⟩ := hrel
            have hHl : H * 2 ≤ m.length := by have := HH.out; omega
            by_cases hlt : t < H
            · have hlt2 : (b : Int) + 2 * (t : Int) < (H : Int) * 2 := by omega
              have hw5 : (0 : Int) ≤ (b : Int) + 2 * (t : Int) := by omega
              have hw6 : (b : Int) + 2 * (t : Int) < (m.length : Int) := by omega
              have hw7 : ((b : Int) + 2 * (t : Int)).toNat = b + 2 * t := by omega
              obtain ⟨bk, ok, rfl, hbk, hck⟩ := (O9.out.rd.below HI.out.2).cell (k := b + 2 * t) (by omega)
              have HPS := Lib.hid (pickn_succ b m t)
              have HPL := Lib.hid (pickn_len b m t)
              have HOA := Lib.hid (HI.out.1.below (b1 (.cells #[.string (m.getD (b + 2 * t) ByteArray.empty)] 9)))
              generalize m.getD (b + 2 * t) ByteArray.empty = x at *
              go_wp2_with (at_builtin; refine wp_appS rfl _ _ _ rfl w9.heap.size (pickn b m t) [x] _ _ rfl rfl HOA.out (OwnS.one x wr).rd.src (by have := HI.out.2.size; simp; omega) (by have := HPL.out; simp; omega) ?_; intro v12 w12 ho12 hb12; rw [← HPS.out] at ho12; have H12 : Hid (OwnS w9.heap.size (pickn b m (t + 1)) v12 w12 ∧ Below w9.heap.size w9 w12) := Lib.hid ⟨ho12, (bal HI.out.2 _).trans hb12⟩; clear ho12 hb12)
              exact ⟨⟨t + 1, by omega, by (congr 1 <;> omega), H12⟩, by simp [intOf]; omega⟩
            · obtain rfl : t = H := by omega
              have hnlt : ¬ (b : Int) + 2 * (t : Int) < (t : Int) * 2 := by omega
              have MF := Lib.hid ((M9.out.go HI.out.2).newc HI.out.1 M9.out.2.2.size)
              have OF := Lib.hid (O9.out.below HI.out.2)
              rw [HP.out] at MF
              have RTL := Lib.hid ((RowT.own (W := w) OF.out (Nat.le_refl w.heap.size)).tl (k := t * 2) hHl)
              have q := tlS_run OF.out.rd (t * 2) hHl (by omega)
              rw [show (((t * 2 : Nat)) : Int) = (t : Int) * 2 by omega] at q
              obtain ⟨aT, cT, hT⟩ := RTL.out.rd.shape
              rw [hT] at q RTL
              have HRS : Hid (rst m = m.drop (t * 2)) := Lib.hid (by unfold rst; rw [HH.out])
              have hdl : (m.drop (t * 2)).length = m.length - t * 2 := List.length_drop
              rw [hdl] at q RTL
              have MA := Lib.hid (MF.out.go (b1 (.cells #[.slice aT (m.length - t * 2) cT] 57)))
              have RA := Lib.hid (RTL.out.keep (.below (b1 (.cells #[.slice aT (m.length - t * 2) cT] 57))))
              have hsz := MF.out.2.2.size
              clear HI OF MF RTL hT O9 M9
              go_wp2_with (first
                | (go_at_call 39; (with_reducible refine (HSM.out _).mono ?_); rintro e w' ⟨rfl, rfl⟩)
                | (at_builtin; refine wp_appV rfl _ _ _ rfl w.heap.size us [.slice aT (m.length - t * 2) cT] _ _ rfl rfl MA.out.1.1 (OwnV.one rfl wr).rd.src MA.out.2.2.size (by have := HIL.out; simp; omega) ?_; intro v10 w10 ho10 hb10 hl10; have M10 := Lib.hid (MA.out.snoc RA.out ho10 hl10 hb10); clear ho10 hb10 hl10))
              exact ⟨⟨i + 1, P ++ [rst m], us ++ [.slice aT (m.length - t * 2) cT], pick b m, aS K1 (2 ^ i), a1 + 1, rfl, by (have h := HKA.out; congr 1; unfold wrap64; omega), by go_num, Lib.hid (HFUL.out hS), Lib.hid (by rw [HRS.out]; exact M10.out)⟩, by simp [intOf]; omega⟩
    · have hi : L.length ≤ i := by omega
      obtain rfl : c = [] := by
        cases c with
        | nil => rfl
        | cons x c => exact absurd (.inr (by simp)) hc
      have HD := Lib.hid (HT.out.done hi)
      have hle := HLE.out
      rw [HD.out] at hle
      have hnl : ¬ (i : Int) < (L.length : Int) := by omega
      have hUL := HM.out.1.2.1
      have HP41 := HX.out
      rw [HD.out] at HP41
      have HMM := Lib.hid HM.out.1
      have HBB := Lib.hid HM.out.2.2
      clear HT HX HLE HN HM
      rcases Nat.eq_zero_or_pos us.length with hU0 | hU0
      · go_wp2
        refine wp_loop_rounds 1 ?_
        rw [rounds_succ]
        go_wp2
        refine bodyPost_ret (v := .tuple #[.slice ao us.length co, .int .i64 K1, .int .i64 a1]) (by simp [results, Tryd.results41, go_sem, *]) rfl ⟨_, by rw [HD.out], ?_, HBB.out⟩
        rw [HD.out]
        exact HMM.out.rb (Nat.le_refl _)
      · obtain ⟨g, rfl, -, -, -, hcl⟩ := HMM.out.1.cells hU0
        have hc1 := (hcl (us.length - 1) (by omega)).1
        have hrow := (HMM.out.2.2 (us.length - 1) (by omega)).rd
        obtain ⟨au, cu, hu⟩ := hrow.shape
        rw [hu] at hc1
        have hne : 0 < (P.getD (us.length - 1) []).length := by
          unfold lastE at hle
          rw [hUL]
          simp only [Bool.and_eq_false_iff, decide_eq_false_iff_not] at hle
          rcases hle with h | h
          · omega
          · omega
        obtain ⟨N, hN⟩ : ∃ N, us.length = N + 1 := ⟨us.length - 1, by omega⟩
        rw [hN, Nat.add_sub_cancel] at hc1 hne
        rw [hN]
        generalize (P.getD N []).length = q at *
        clear hcl hrow hu
        go_wp2
        refine wp_loop_rounds 1 ?_
        rw [rounds_succ]
        go_wp2
        refine bodyPost_ret (v := .tuple #[.slice (some ⟨g, 0, none⟩) (N + 1) co, .int .i64 K1, .int .i64 a1]) (by simp [results, Tryd.results41, go_sem, *]) rfl ⟨_, by rw [HD.out], ?_, HBB.out⟩
        rw [HD.out, ← hN]
        exact HMM.out.rb (Nat.le_refl _)
end Go.Proofs.YtdifilhfmbpalaaDoor
