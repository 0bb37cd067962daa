/- The contracts of names.toHex and fromHex, and of the reference's Hex, nibble and Unhex. -/
import Derived.Test.YtedcleobhdjhaaaDoorHexNums
import Derived.Test.YtedcleobhdjhaaaDoorStepApp
namespace Go.Proofs.YtedcleobhdjhaaaDoor
open Go.RowKit
set_option linter.unusedVariables false
set_option linter.unusedSimpArgs false
def HX : ByteArray := ⟨#[48, 49, 50, 51, 52, 53, 54, 55, 56, 57, 97, 98, 99, 100, 101, 102]⟩
theorem hx_fin : ∀ i : Fin 16, ((HX.data[i.val]'(i.isLt)).toNat : Int) = hexd i.val := by decide +kernel
theorem hex_at (n : Int) (h0 : 0 ≤ n) (h1 : n ≤ 15) (w : World) : (Instr.index 9 (.string ⟨#[48, 49, 50, 51, 52, 53, 54, 55, 56, 57, 97, 98, 99, 100, 101, 102]⟩) (.int .u8 n)).run Tryd.prog w = .ok (.int .u8 (hexd n)) w := by
  rw [run_index_string w _ _ _ _ Tryd.underlying9]
  have hs : (⟨#[48, 49, 50, 51, 52, 53, 54, 55, 56, 57, 97, 98, 99, 100, 101, 102]⟩ : ByteArray).size = 16 := rfl
  rw [dif_pos ⟨h0, by rw [hs]; omega⟩]
  have := hx_fin ⟨n.toNat, by omega⟩
  have e : ((n.toNat : Nat) : Int) = n := by omega
  simp only [e] at this
  rw [← this]
  rfl
theorem and_fin : ∀ i : Fin 256, bits .and .u8 (i.val : Int) 15 = (i.val : Int) % 16 := by decide +kernel
theorem and_15 (n : Int) (h0 : 0 ≤ n) (h1 : n ≤ 255) : bits .and .u8 n 15 = n % 16 := by
  have := and_fin ⟨n.toNat, by omega⟩
  simp only [Int.toNat_of_nonneg h0] at this
  exact this
theorem hex_step (L : List Int) (k : Nat) (h : k < L.length) : hexL (L.take (k + 1)) = hexL (L.take k) ++ [hexd (L.getD k 0 / 16), hexd (L.getD k 0 % 16)] := by
  rw [take_snoc L k h, hexL_app]
  rfl
set_option maxRecDepth 100000 in
set_option maxHeartbeats 1000000 in
theorem toHex_any (s : ByteArray) (w : World) (hs : s.size ≤ 70368744177664) :
    Calls Tryd.prog 35 #[.string s] w fun e w' => e = .returned (.string (strOfNums (hexL (byt s)))) ∧ Below w.heap.size w w' := by
  have HL := Lib.hid (byt_len s)
  have HBY := Lib.hid (byt_byt s)
  obtain ⟨R, HR⟩ : ∃ R, Hid (strOfNums (hexL (byt s)) = R) := ⟨_, rfl⟩
  rw [HR.out]
  go_enter Tryd.func35, Tryd.ntmps35
  go_wp2
  go_loopw [3, 7] (fun v i wr => ∃ k : Nat, k ≤ s.size ∧ i = .int .i64 k ∧ Hid (Own w.heap.size (hexL ((byt s).take k)) v wr) ∧ Hid (Below w.heap.size w wr)) (fun _ i _ => s.size - (intOf i).toNat)
  case atStart => exact ⟨0, by omega, rfl, Own.empty _ _, Below.refl _ _⟩
  case round =>
    obtain ⟨k, hk, rfl, HO, HB⟩ := hrel
    by_cases hlt : k < s.size
    · have hb := byt_at hlt
      have hst := hex_step (byt s) k (by rw [HL.out]; exact hlt)
      have hc := HBY.out.at_ k
      rw [hb] at hst hc
      have HS := Lib.hid hst
      clear hst hb
      have hd1 := hex_at ((s[k].toNat : Int) / 16) (by omega) (by omega)
      have hd2 := hex_at ((s[k].toNat : Int) % 16) (by omega) (by omega)
      have ha := and_15 (s[k].toNat : Int) (by omega) (by omega)
      have hx1 := hexd_bd ((s[k].toNat : Int) / 16) (by omega) (by omega)
      have hx2 := hexd_bd ((s[k].toNat : Int) % 16) (by omega) (by omega)
      have HLN := Lib.hid (hexL_len ((byt s).take k))
      go_wp2
      have h2 := fun ww : World => (Own.two (c := hexd ((s[k].toNat : Int) / 16)) (d := hexd ((s[k].toNat : Int) % 16)) (by omega) (by omega) ww).rd.drew.src
      go_region_law (refine step_app rfl _ _ _ rfl w.heap.size (hexL ((byt s).take k)) [hexd ((s[k].toNat : Int) / 16), hexd ((s[k].toNat : Int) % 16)] _ _ rfl rfl (HO.out.alloc _).drew (h2 _) ?_ ?_ ?_; (have := HB.out.size; simp; omega); (rw [HLN.out]; simp; omega); intro v1 w1 ho1 hb1; have HO1 := Lib.hid ho1; have HB1 := Lib.hid hb1; clear ho1 hb1)
      all_goals
        go_wp2
        go_roundw
        case rel => exact ⟨k + 1, by omega, by go_num, Lib.hid (by rw [HS.out]; exact HO1.out), Lib.hid ((below_drew (HB.out.alloc HB.out.size _)).trans HB1.out)⟩
        case measure => simp [intOf]; omega
    · obtain rfl : k = s.size := by omega
      have hc := HO.out.rd.conv
      rw [← HL.out, List.take_length, HR.out] at hc
      go_wp2
      go_ret
      exact ⟨rfl, HB.out⟩
theorem nib_any (c : Int) (w : World) (h0 : 0 ≤ c) (h1 : c ≤ 255) : Calls Tryd.prog 50 #[.int .u8 c] w fun e w' => e = .returned (.int .i64 (nib c)) ∧ w = w' := by
  unfold nib
  cases hd : inB c 48 57
  · cases ha : inB c 97 102
    · go_enter Tryd.func50, Tryd.ntmps50
      go_wp2_with (go_at_call 33; refine (between_any _ _ _ _).mono ?_; rintro e w' ⟨rfl, rfl⟩)
      go_ret
      exact ⟨rfl, rfl⟩
    · have hb : 97 ≤ c ∧ c ≤ 102 := by simpa [inB] using ha
      obtain ⟨b1, b2⟩ := hb
      go_enter Tryd.func50, Tryd.ntmps50
      go_wp2_with (go_at_call 33; refine (between_any _ _ _ _).mono ?_; rintro e w' ⟨rfl, rfl⟩)
      go_ret
      exact ⟨ret_int (by first | rfl | omega | (simp <;> omega)), rfl⟩
  · have hb : 48 ≤ c ∧ c ≤ 57 := by simpa [inB] using hd
    obtain ⟨b1, b2⟩ := hb
    go_enter Tryd.func50, Tryd.ntmps50
    go_wp2_with (go_at_call 33; refine (between_any _ _ _ _).mono ?_; rintro e w' ⟨rfl, rfl⟩)
    go_ret
    exact ⟨ret_int (by first | rfl | omega | (simp <;> omega)), rfl⟩
theorem idx_fin : ∀ i : Fin 256, Lib.indexByte [48, 49, 50, 51, 52, 53, 54, 55, 56, 57, 97, 98, 99, 100, 101, 102] i.val.toUInt8 = nib (i.val : Int) := by decide +kernel
theorem idx_any (c : Int) (w : World) (h0 : 0 ≤ c) (h1 : c ≤ 255) : Calls Tryd.prog 49 #[.string ⟨#[48, 49, 50, 51, 52, 53, 54, 55, 56, 57, 97, 98, 99, 100, 101, 102]⟩, .int .u8 c] w fun e w' => e = .returned (.int .i64 (nib c)) ∧ w = w' := by
  have h := idx_fin ⟨c.toNat, by omega⟩
  simp only [Int.toNat_of_nonneg h0] at h
  refine (Tryd.strings_IndexByte _ c w).mono ?_
  rintro e w' ⟨rfl, rfl⟩
  exact ⟨ret_int h, rfl⟩
theorem or_fin : ∀ i j : Fin 16, bits .or .i64 ((i.val : Int) * 16) (j.val : Int) % 256 = 16 * (i.val : Int) + (j.val : Int) := by decide +kernel
theorem or_16 (n m : Int) (n0 : 0 ≤ n) (n1 : n ≤ 15) (m0 : 0 ≤ m) (m1 : m ≤ 15) : bits .or .i64 (n * 16) m % 256 = 16 * n + m := by
  have := or_fin ⟨n.toNat, by omega⟩ ⟨m.toNat, by omega⟩
  simp only [Int.toNat_of_nonneg n0, Int.toNat_of_nonneg m0] at this
  exact this
theorem unhex_odd : ∀ L : List Int, L.length % 2 = 1 → unhexL L = none
  | [], h => by simp at h
  | [_], _ => rfl
  | a :: b :: r, h => by
    rw [unhexL, unhex_odd r (by simp at h; omega)]
    simp
theorem drop_two {L : List Int} {k : Nat} (h : k + 1 < L.length) : L.drop k = L.getD k 0 :: L.getD (k + 1) 0 :: L.drop (k + 2) := by
  rw [List.drop_eq_getElem_cons (by omega), List.drop_eq_getElem_cons h]
  simp [List.getD, h, show k < L.length by omega]
set_option maxRecDepth 100000 in
set_option maxHeartbeats 1000000 in
theorem fromHex_any (s : ByteArray) (w : World) (hs : s.size ≤ 70368744177664) :
    Calls Tryd.prog 39 #[.string s] w fun e w' => e = .returned (.string (strOfNums ((unhexL (byt s)).getD []))) ∧ Below w.heap.size w w' := by
  have HL := Lib.hid (byt_len s)
  have HBY := Lib.hid (byt_byt s)
  obtain ⟨R, HR⟩ : ∃ R, Hid (strOfNums ((unhexL (byt s)).getD []) = R) := ⟨_, rfl⟩
  rw [HR.out]
  by_cases ho : s.size % 2 = 0
  · have ho' : (s.size : Int) % 2 = 0 := by omega
    go_enter Tryd.func39, Tryd.ntmps39
    go_wp2
    have HE := Lib.hid ho
    clear ho ho'
    go_loopw [3, 4] (fun v i wr => ∃ (k : Nat) (M : List Int), k ≤ s.size ∧ i = .int .i64 k ∧ Hid (k = 2 * M.length) ∧ Hid (unhexL (byt s) = (unhexL ((byt s).drop k)).map (M ++ ·)) ∧ Hid (Own w.heap.size M v wr) ∧ Hid (Below w.heap.size w wr)) (fun _ i _ => s.size - (intOf i).toNat)
    case atStart => exact ⟨0, [], by omega, rfl, rfl, by simp [Hid], Own.empty _ _, Below.refl _ _⟩
    case round =>
      obtain ⟨k, M, hk, rfl, HK, HU, HO, HB⟩ := hrel
      by_cases hlt : k < s.size
      · have hlt2 : k + 1 < s.size := by have := HK.out; have := HE.out; omega
        have hd := drop_two (L := byt s) (k := k) (by rw [HL.out]; exact hlt2)
        have hu := HU.out
        rw [hd, unhexL, byt_at hlt, byt_at hlt2] at hu
        have HU2 := Lib.hid hu
        clear hd hu
        have ca := HBY.out.at_ k
        have cb := HBY.out.at_ (k + 1)
        rw [byt_at hlt] at ca
        rw [byt_at hlt2] at cb
        have c1 := fun w => idx_any (s[k].toNat : Int) w ca.1 ca.2
        have c2 := fun w => idx_any (s[k + 1].toNat : Int) w cb.1 cb.2
        have n1 := nib_bd (s[k].toNat : Int)
        have n2 := nib_bd (s[k + 1].toNat : Int)
        generalize nib (s[k].toNat : Int) = n at *
        generalize nib (s[k + 1].toNat : Int) = m at *
        by_cases hb : n < 0 ∨ m < 0
        · have hu := HU2.out
          rw [if_pos hb] at hu
          have hr := HR.out
          rw [hu] at hr
          have hr' : ByteArray.empty = R := hr
          subst hr'
          clear hu hr
          by_cases hn : n < 0
          all_goals
            go_wp2_with (go_at_call 49; first
              | ((with_reducible refine (c1 _).mono ?_); rintro e w' ⟨rfl, rfl⟩)
              | ((with_reducible refine (c2 _).mono ?_); rintro e w' ⟨rfl, rfl⟩))
            go_ret
            exact ⟨rfl, HB.out⟩
        · have hn : 0 ≤ n := by omega
          have hm : 0 ≤ m := by omega
          have hu := HU2.out
          rw [if_neg hb] at hu
          have HU3 := Lib.hid hu
          clear hu hb HU2
          have hv := or_16 n m hn n1.2 hm n2.2
          go_wp2_with (first
            | (go_at_call 49; first
              | ((with_reducible refine (c1 _).mono ?_); rintro e w' ⟨rfl, rfl⟩)
              | ((with_reducible refine (c2 _).mono ?_); rintro e w' ⟨rfl, rfl⟩))
            | (at_builtin; refine wp_app rfl _ _ _ rfl w.heap.size M [16 * n + m] _ _ rfl rfl (HO.out.alloc _) ?d1 ?d2 ?d3 ?_))
          case d1 => exact (Own.one (c := 16 * n + m) (by omega) wr).rd.src
          case d2 => have := HB.out.size; simp <;> omega
          case d3 => have := HK.out; simp <;> omega
          · intro v' w1 hown1 hb1
            have HB2 := Lib.hid ((HB.out.alloc HB.out.size _).trans hb1)
            have HO2 := Lib.hid hown1
            clear hown1 hb1 hv
            go_wp2
            go_roundw
            case rel => exact ⟨k + 2, M ++ [16 * n + m], by omega, by go_num, Lib.hid (by have := HK.out; simp; omega), Lib.hid (by rw [HU3.out, Option.map_map]; congr 1; funext x; simp), HO2, HB2⟩
            case measure => simp [intOf]; omega
      · obtain rfl : k = s.size := by omega
        have hu := HU.out
        have hr := HR.out
        rw [show (byt s).drop s.size = [] by rw [← HL.out, List.drop_length]] at hu
        simp only [unhexL, Option.map_some, List.append_nil] at hu
        rw [hu, Option.getD_some] at hr
        have hc := HO.out.rd.conv
        rw [hr] at hc
        clear hu hr
        go_wp2
        go_ret
        exact ⟨rfl, HB.out⟩
  · have ho' : (s.size : Int) % 2 = 1 := by omega
    have hu := unhex_odd (byt s) (by rw [HL.out]; omega)
    have hr := HR.out
    rw [hu] at hr
    have hr' : ByteArray.empty = R := hr
    subst hr'
    clear hu hr
    go_enter Tryd.func39, Tryd.ntmps39
    go_wp2
    go_ret
    exact ⟨rfl, Below.refl _ _⟩
end Go.Proofs.YtedcleobhdjhaaaDoor
