/- The contracts of the reference's Hex and Unhex. -/
import Derived.Test.YtedcleobhdjhaaaDoorHex
namespace Go.Proofs.YtedcleobhdjhaaaDoor
open Go.RowKit
set_option linter.unusedVariables false
set_option linter.unusedSimpArgs false
theorem str_app (L M : List Int) : strOfNums L ++ strOfNums M = strOfNums (L ++ M) := by
  unfold strOfNums
  apply ByteArray.ext
  simp
theorem str_size (L : List Int) : (strOfNums L).size = L.length := by
  rw [Lib.size_eq]
  simp [strOfNums]
theorem add_run (L M : List Int) (h : L.length + M.length ≤ 9223372036854775807) (w : World) : (Op.stringOp .add (strOfNums L) (strOfNums M)).run Tryd.prog w = .ok (.string (strOfNums (L ++ M))) w := by
  rw [run_string_add_sum _ _ _ (by rw [str_size, str_size]; exact h), str_app]
theorem cut_fin : ∀ i : Fin 16, (⟨#[48, 49, 50, 51, 52, 53, 54, 55, 56, 57, 97, 98, 99, 100, 101, 102]⟩ : ByteArray).extract i.val (i.val + 1) = strOfNums [hexd i.val] := by decide +kernel
theorem cut_at (n : Int) (h0 : 0 ≤ n) (h1 : n ≤ 15) (w : World) : (Instr.slice 9 (.string ⟨#[48, 49, 50, 51, 52, 53, 54, 55, 56, 57, 97, 98, 99, 100, 101, 102]⟩) (some (.int .u8 n)) (some (.int .u8 (n + 1))) none).run Tryd.prog w = .ok (.string (strOfNums [hexd n])) w := by
  have hs : (⟨#[48, 49, 50, 51, 52, 53, 54, 55, 56, 57, 97, 98, 99, 100, 101, 102]⟩ : ByteArray).size = 16 := rfl
  rw [run_slice_string w _ _ _ _ n (n + 1) Tryd.underlying9 h0 (by omega) (by rw [hs]; omega)]
  have := cut_fin ⟨n.toNat, by omega⟩
  simp only [Int.toNat_of_nonneg h0] at this
  rw [← this]
  have e : (n + 1).toNat = n.toNat + 1 := by omega
  rw [e]
set_option maxRecDepth 100000 in
set_option maxHeartbeats 1000000 in
theorem rhex_any (s : ByteArray) (w : World) (hs : s.size ≤ 70368744177664) :
    Calls Tryd.prog 37 #[.string s] w fun e w' => e = .returned (.string (strOfNums (hexL (byt s)))) ∧ Below w.heap.size w w' := by
  have HL := Lib.hid (byt_len s)
  have HBY := Lib.hid (byt_byt s)
  obtain ⟨R, HR⟩ : ∃ R, Hid (strOfNums (hexL (byt s)) = R) := ⟨_, rfl⟩
  rw [HR.out]
  go_enter Tryd.func37, Tryd.ntmps37
  go_wp2
  go_loopw [3, 4] (fun v i wr => ∃ (k : Nat) (t : ByteArray), k ≤ s.size ∧ i = .int .i64 k ∧ v = .string t ∧ Hid (t = strOfNums (hexL ((byt s).take k))) ∧ Hid (Below w.heap.size w wr)) (fun _ i _ => s.size - (intOf i).toNat)
  case atStart => exact ⟨0, _, by omega, rfl, rfl, rfl, Below.refl _ _⟩
  case round =>
    obtain ⟨k, t, hk, rfl, rfl, HT, HB⟩ := hrel
    by_cases hlt : k < s.size
    · have hb := byt_at hlt
      have hst := hex_step (byt s) k (by rw [HL.out]; exact hlt)
      have hc := HBY.out.at_ k
      rw [hb] at hst hc
      have HS := Lib.hid hst
      clear hst hb
      have hd1 := cut_at ((s[k].toNat : Int) / 16) (by omega) (by omega)
      have hd2 := cut_at ((s[k].toNat : Int) % 16) (by omega) (by omega)
      have ha := and_15 (s[k].toNat : Int) (by omega) (by omega)
      have HLN := Lib.hid (hexL_len ((byt s).take k))
      have hp1 := add_run (hexL ((byt s).take k)) [hexd ((s[k].toNat : Int) / 16)] (by rw [HLN.out]; simp <;> omega)
      have hp2 := add_run (hexL ((byt s).take k) ++ [hexd ((s[k].toNat : Int) / 16)]) [hexd ((s[k].toNat : Int) % 16)] (by rw [List.length_append, HLN.out]; simp <;> omega)
      have ht := HT.out
      subst ht
      have hw1 : IntKind.u8.wrap ((s[k].toNat : Int) / 16 + 1) = (s[k].toNat : Int) / 16 + 1 := by rw [IntKind.wrap_u8]; omega
      have hw2 : IntKind.u8.wrap ((s[k].toNat : Int) % 16 + 1) = (s[k].toNat : Int) % 16 + 1 := by rw [IntKind.wrap_u8]; omega
      go_wp2
      go_quiet (fail)
      clear hw1 hw2 hd1 hd2 ha hp1 hp2
      go_wp2
      go_roundw
      case rel => exact ⟨k + 1, _, by omega, by go_num, rfl, Lib.hid (by rw [HS.out]), Lib.hid (below_drewN HB.out _)⟩
      case measure => simp [intOf]; omega
    · obtain rfl : k = s.size := by omega
      have ht := HT.out
      rw [← HL.out, List.take_length, HR.out] at ht
      subst ht
      go_wp2
      go_ret
      exact ⟨rfl, HB.out⟩
def UnhexPost (R : Option (List Int)) (w : World) (e : Ending) (w' : World) : Prop := ∃ t : ByteArray, e = .returned (.tuple #[.string t, .bool R.isSome]) ∧ (∀ K, R = some K → t = strOfNums K) ∧ Below w.heap.size w w'
set_option maxRecDepth 100000 in
set_option maxHeartbeats 1000000 in
theorem runhex_any (s : ByteArray) (w : World) (hs : s.size ≤ 70368744177664) :
    Calls Tryd.prog 40 #[.string s] w (UnhexPost (unhexL (byt s)) w) := by
  have HL := Lib.hid (byt_len s)
  have HBY := Lib.hid (byt_byt s)
  obtain ⟨R, HR⟩ : ∃ R, Hid ((unhexL (byt s)) = R) := ⟨_, rfl⟩
  rw [HR.out]
  go_enter Tryd.func40, Tryd.ntmps40
  go_wp2
  go_loopw [4, 5] (fun v i wr => ∃ (k : Nat) (M : List Int), k ≤ s.size ∧ i = .int .i64 k ∧ Hid (k = 2 * M.length) ∧ Hid (unhexL (byt s) = (unhexL ((byt s).drop k)).map (M ++ ·)) ∧ Hid (Own w.heap.size M v wr) ∧ Hid (Below w.heap.size w wr)) (fun _ i _ => s.size - (intOf i).toNat)
  case atStart => exact ⟨0, [], by omega, rfl, rfl, by simp [Hid], Own.empty _ _, Below.refl _ _⟩
  case round =>
    obtain ⟨k, M, hk, rfl, HK, HU, HO, HB⟩ := hrel
    by_cases hlt2 : k + 1 < s.size
    · have hlt : k < s.size := by omega
      have hd := drop_two (L := byt s) (k := k) (by rw [HL.out]; exact hlt2)
      have hu := HU.out
      rw [hd, unhexL, byt_at hlt, byt_at hlt2] at hu
      have HU2 := Lib.hid hu
      clear hd hu
      have ca := HBY.out.at_ k
      have cb := HBY.out.at_ (k + 1)
      rw [byt_at hlt] at ca
      rw [byt_at hlt2] at cb
      have c1 := fun w => nib_any (s[k].toNat : Int) w ca.1 ca.2
      have c2 := fun w => nib_any (s[k + 1].toNat : Int) w cb.1 cb.2
      have n1 := nib_bd (s[k].toNat : Int)
      have n2 := nib_bd (s[k + 1].toNat : Int)
      generalize nib (s[k].toNat : Int) = n at *
      generalize nib (s[k + 1].toNat : Int) = m at *
      have hw1 : IntKind.i64.wrap ((k : Int) + 1) = (k : Int) + 1 := IntWalk.i64_in _ (by omega)
      have g0 : (0 : Int) ≤ (k : Int) + 1 := by omega
      have g1 : (k : Int) + 1 < (s.size : Int) := by omega
      have g2 : ((k : Int) + 1).toNat = k + 1 := by omega
      go_wp2
      go_quiet ((go_at_call 50; first | (with_reducible exact quiet_left (c1 _)) | (with_reducible exact quiet_left (c2 _))))
      clear hw1 c1 c2
      have HOq : Hid (Own w.heap.size M u4 (wr.drewN nq)) := Lib.hid (HO.out.drewN nq)
      have HBq := Lib.hid (below_drewN HB.out nq)
      clear HO HB
      by_cases hb : n < 0 ∨ m < 0
      · have hu := HU2.out
        rw [if_pos hb] at hu
        have hr := HR.out
        rw [hu] at hr
        have hr' : none = R := hr
        subst hr'
        clear hu hr
        by_cases hn : n < 0
        all_goals
          go_wp2
          go_ret2
          exact ⟨_, rfl, fun K h => by simp at h, HBq.out⟩
      · have hn : 0 ≤ n := by omega
        have hm : 0 ≤ m := by omega
        have hu := HU2.out
        rw [if_neg hb] at hu
        have HU3 := Lib.hid hu
        clear hu hb HU2
        have hv : IntKind.u8.wrap (16 * n + m) = 16 * n + m := by rw [IntKind.wrap_u8]; omega
        have hv2 : (16 * n + m) % 256 = 16 * n + m := by omega
        go_wp2_with (at_builtin; refine wp_app rfl _ _ _ rfl w.heap.size M [16 * n + m] _ _ rfl rfl (HOq.out.alloc _) ?d1 ?d2 ?d3 ?_)
        case d1 => exact (Own.one (c := 16 * n + m) (by omega) (wr.drewN nq)).rd.src
        case d2 => have := HBq.out.size; simp at this ⊢ <;> omega
        case d3 => have := HK.out; simp <;> omega
        · intro v' w1 hown1 hb1
          have HB2 := Lib.hid ((HBq.out.alloc HBq.out.size _).trans hb1)
          have HO2 := Lib.hid hown1
          clear hown1 hb1 hv hv2
          go_wp2
          go_roundw
          case rel => exact ⟨k + 2, M ++ [16 * n + m], by omega, by go_num, Lib.hid (by have := HK.out; simp; omega), Lib.hid (by rw [HU3.out, Option.map_map]; congr 1; funext x; simp), HO2, HB2⟩
          case measure => simp [intOf]; omega
    · have hc := HO.out.rd.conv
      by_cases hs2 : k = s.size
      · subst hs2
        have hu := HU.out
        rw [show (byt s).drop s.size = [] by rw [← HL.out, List.drop_length]] at hu
        simp only [unhexL, Option.map_some, List.append_nil] at hu
        have hr := HR.out
        rw [hu] at hr
        subst hr
        have he : (s.size : Int) % 2 = 0 := by have := HK.out; omega
        clear hu
        go_wp2
        go_ret2
        exact ⟨_, rfl, fun K h => by cases h; rfl, HB.out⟩
      · have he : (s.size : Int) % 2 = 1 := by have := HK.out; omega
        have hu := unhex_odd (byt s) (by rw [HL.out]; omega)
        have hr := HR.out
        rw [hu] at hr
        subst hr
        clear hu
        go_wp2
        go_ret2
        exact ⟨_, rfl, fun K h => by simp at h, HB.out⟩
end Go.Proofs.YtedcleobhdjhaaaDoor
