/- Dead of both; the law's ints at equal lists. -/
import Derived.Test.YtakickggpfbafaaChG
import Derived.Test.YtakickggpfbafaaPnV
import Derived.WalkMore
import Derived.Deep.LoopGhost
namespace Go.Proofs.Ytakickggpfbafaa
open Go.RowKit
set_option linter.unusedVariables false
set_option linter.unusedSimpArgs false
/-- The places of the versions that have ended and are not pinned. -/
def deadF (P : List Pn) : List Vn → Nat → List Int
  | [], _ => []
  | x :: L, i => if x.r ≠ 0 ∧ covP x.n x.r P = false then (i : Int) :: deadF P L (i + 1) else deadF P L (i + 1)
theorem deadF_snoc (P : List Pn) (x : Vn) : ∀ (L : List Vn) (i : Nat), deadF P (L ++ [x]) i = deadF P L i ++ (if x.r ≠ 0 ∧ covP x.n x.r P = false then [((i + L.length : Nat) : Int)] else [])
  | [], i => by
    simp only [List.nil_append, deadF, List.length_nil, Nat.add_zero]
  | y :: L, i => by
    simp only [List.cons_append, deadF, deadF_snoc P x L (i + 1), List.length_cons]
    rw [show i + 1 + L.length = i + (L.length + 1) by omega]
    split <;> simp
theorem deadF_len (P : List Pn) : ∀ (L : List Vn) (i : Nat), (deadF P L i).length ≤ L.length
  | [], _ => Nat.le_refl _
  | y :: L, i => by
    unfold deadF
    have := deadF_len P L (i + 1)
    split <;> simp <;> omega
theorem vn_take {L : List Vn} {q : Nat} (h : q < L.length) : L.take (q + 1) = L.take q ++ [L.getD q Vn.z] := by
  rw [List.take_add_one]
  simp [List.getD, h]
theorem deadF_take (P : List Pn) {L : List Vn} {q : Nat} (h : q < L.length) : deadF P (L.take (q + 1)) 0 = deadF P (L.take q) 0 ++ (if (L.getD q Vn.z).r ≠ 0 ∧ covP (L.getD q Vn.z).n (L.getD q Vn.z).r P = false then [(q : Int)] else []) := by
  rw [vn_take h, deadF_snoc, List.length_take, Nat.min_eq_left (Nat.le_of_lt h), Nat.zero_add]
set_option maxRecDepth 100000 in
set_option maxHeartbeats 1000000 in
theorem ints_any (Z : List Int) (v u : Value) (w : World) (hv : RdI Z v w) (hu : RdI Z u w) (hL : Z.length ≤ 1000000) :
    Calls Try.prog 22 #[v, u] w fun e w' => e = .returned (.bool true) ∧ Below w.heap.size w w' := by
  obtain ⟨a, cap, rfl⟩ := hv.shape
  obtain ⟨a2, cap2, rfl⟩ := hu.shape
  have HV := Lib.hid hv
  have HU := Lib.hid hu
  clear hv hu
  go_enter Try.func22, Try.ntmps22
  go_wp2
  go_loopw [5] (fun i wr => ∃ q m : Nat, q ≤ Z.length ∧ i = .int .i64 (q : Int) ∧ wr = w.drewN m) (fun i _ => Z.length - (intOf i).toNat)
  case atStart => exact ⟨0, 0, by omega, rfl, rfl⟩
  case round =>
    obtain ⟨q, m, hq, rfl, rfl⟩ := hrel
    by_cases hlt : q < Z.length
    · have hqi : (q : Int) < (Z.length : Int) := by omega
      obtain ⟨b, off, rfl, hb, c0⟩ := HV.out.cellG hlt
      obtain ⟨b', off', rfl, hb', c1⟩ := HU.out.cellG hlt
      generalize Z.getD q 0 = y at *
      go_wp2
      go_quiet (fail)
      go_wp2
      go_roundw
      case rel => exact ⟨q + 1, _, by omega, by go_num, rfl⟩
      case measure => simp [intOf]; omega
    · obtain rfl : q = Z.length := by omega
      go_wp2
      go_ret
      exact ⟨rfl, below_drewN (Below.refl _ _) _⟩
section
variable (M : List Vs) (L : List Vn) (u : Value) (P : List Pn) (pv : Value) (w : World)
set_option maxRecDepth 100000 in
set_option maxHeartbeats 2000000 in
theorem pdead_any (hv : RdVs M u w) (hm : VmAt 0 M L w) (hL : L.length ≤ 1000) (hp : RdPn P pv w) (hP : P.length ≤ 1000000000000) :
    Calls Try.prog 18 #[u, pv] w fun e w' => ∃ v, e = .returned v ∧ OwnI w.heap.size (deadF P L 0) v w' ∧ Below w.heap.size w w' := by
  have hml := hm.len
  obtain ⟨a, cap, rfl⟩ := hv.shape
  obtain ⟨pa, pc, rfl⟩ := hp.shape
  have HV := Lib.hid hv
  have HM := Lib.hid hm
  have HP := Lib.hid hp
  rw [hml] at HV ⊢
  clear hv hm hp
  go_enter Try.func18, Try.ntmps18
  go_wp2
  go_step3
  go_wp2
  go_step3
  go_wp2
  go_loopw [5, 6, 7, 10] (fun d _ _ i wr => ∃ q : Nat, q ≤ L.length ∧ i = .int .i64 (q : Int) ∧ Hid (OwnI w.heap.size (deadF P (L.take q) 0) d wr) ∧ Hid (Below w.heap.size w wr)) (fun _ _ _ i _ => L.length - (intOf i).toNat)
  case atStart => exact ⟨0, by omega, rfl, Lib.hid (OwnI.empty _ _), Lib.hid (Below.refl _ _)⟩
  case round =>
    obtain ⟨q, hq, rfl, HD, HB⟩ := hrel
    obtain ⟨da, dc, rfl⟩ := HD.out.rd.shape
    by_cases hlt : q < L.length
    · have hqi : (q : Int) < (L.length : Int) := by omega
      have HDL := Lib.hid (show (deadF P (L.take q) 0).length ≤ 1000 by have := deadF_len P (L.take q) 0; rw [List.length_take] at this; omega)
      obtain ⟨b, off, s1, e1, rfl, hb, c0, c1, c2, c3, -⟩ := vm_at (HV.out.below HB.out) (HM.out.below HB.out) hlt
      have HT := Lib.hid (deadF_take P hlt)
      generalize L.getD q Vn.z = x at *
      obtain ⟨xn, xr, xk, xp⟩ := x
      simp only at c0 c1 c2 c3
      have HT : Hid (deadF P (L.take (q + 1)) 0 = deadF P (L.take q) 0 ++ (if xr ≠ 0 ∧ covP xn xr P = false then [(q : Int)] else [])) := HT
      generalize hD0 : deadF P (L.take q) 0 = D at *
      clear hD0
      by_cases hr : xr = 0
      · have HT2 : Hid (deadF P (L.take (q + 1)) 0 = D) := Lib.hid (by rw [HT.out, if_neg (fun h => h.1 hr), List.append_nil])
        subst hr
        clear HT
        go_wp2
        go_roundw
        case rel => exact ⟨q + 1, by omega, by go_num, Lib.hid (by rw [HT2.out]; exact HD.out.alloc _), Lib.hid (bal HB.out _)⟩
        case measure => simp [intOf]; omega
      · have hr2 : (xr == 0) = false := by simpa using hr
        have HC := Lib.hid (fun (w' : World) (hb' : Below wr.heap.size wr w') => pcovp_any P _ xn xr w' ((HP.out.below HB.out).below hb') hP)
        cases hc : covP xn xr P with
        | true =>
          have HT2 : Hid (deadF P (L.take (q + 1)) 0 = D) := Lib.hid (by rw [HT.out, hc, if_neg (fun h => by cases h.2), List.append_nil])
          rw [hc] at HC
          clear HT hc
          go_wp2_with (go_at_call 29; refine (HC.out _ (b1 _)).mono ?_; rintro e w2 ⟨rfl, hb2⟩; have B2 := Lib.hid (bgo (b1 _) hb2); clear hb2)
          go_roundw
          case rel => exact ⟨q + 1, by omega, by go_num, Lib.hid (by rw [HT2.out]; exact HD.out.below B2.out), Lib.hid (bgo HB.out B2.out)⟩
          case measure => simp [intOf]; omega
        | false =>
          have HT2 : Hid (deadF P (L.take (q + 1)) 0 = D ++ [(q : Int)]) := Lib.hid (by rw [HT.out, hc, if_pos ⟨hr, rfl⟩])
          rw [hc] at HC
          clear HT hc
          go_wp2_with (first
            | (go_at_call 29; refine (HC.out _ (b1 _)).mono ?_; rintro e w2 ⟨rfl, hb2⟩; have B2 := Lib.hid (bgo (b1 _) hb2); clear hb2)
            | (at_builtin; refine wp_appI rfl _ _ 23 rfl w.heap.size D [(q : Int)] _ _ rfl rfl ((HD.out.below B2.out).alloc _) (OwnI.one (c := (q : Int)) ⟨by omega, by omega⟩ w2).rd.src ?_ ?_ ?_; (have h7 := HB.out.size; have h8 := B2.out.size; simp; omega); (have h7 := HDL.out; simp; omega); intro v3 w3 ho3 hb3; have O3 := Lib.hid ho3; have B3 := Lib.hid ((bal (bgo HB.out B2.out) _).trans hb3); clear ho3 hb3))
          go_roundw
          case rel => exact ⟨q + 1, by omega, by go_num, Lib.hid (by rw [HT2.out]; exact O3.out), B3⟩
          case measure => simp [intOf]; omega
    · obtain rfl : q = L.length := by omega
      rw [List.take_length] at HD ⊢
      go_wp2
      rw [Exit.noGoto_ret]
      go_ret
      exact ⟨_, rfl, HD.out, HB.out⟩
set_option maxRecDepth 100000 in
set_option maxHeartbeats 2000000 in
theorem rdead_any (hv : RdVs M u w) (hm : VmAt 0 M L w) (hL : L.length ≤ 1000) (hp : RdPn P pv w) (hP : P.length ≤ 1000000000000) :
    Calls Try.prog 19 #[u, pv] w fun e w' => ∃ v, e = .returned v ∧ OwnI w.heap.size (deadF P L 0) v w' ∧ Below w.heap.size w w' := by
  have hml := hm.len
  obtain ⟨a, cap, rfl⟩ := hv.shape
  obtain ⟨pa, pc, rfl⟩ := hp.shape
  have HV := Lib.hid hv
  have HM := Lib.hid hm
  have HP := Lib.hid hp
  rw [hml] at HV ⊢
  clear hv hm hp
  go_enter Try.func19, Try.ntmps19
  go_wp2
  go_loopw [5, 6] (fun d i wr => ∃ q : Nat, q ≤ L.length ∧ i = .int .i64 (q : Int) ∧ Hid (OwnI w.heap.size (deadF P (L.take q) 0) d wr) ∧ Hid (Below w.heap.size w wr)) (fun _ i _ => L.length - (intOf i).toNat)
  case atStart => exact ⟨0, by omega, rfl, Lib.hid (OwnI.empty _ _), Lib.hid (Below.refl _ _)⟩
  case round =>
    obtain ⟨q, hq, rfl, HD, HB⟩ := hrel
    obtain ⟨da, dc, rfl⟩ := HD.out.rd.shape
    by_cases hlt : q < L.length
    · have hqi : (q : Int) < (L.length : Int) := by omega
      have HDL := Lib.hid (show (deadF P (L.take q) 0).length ≤ 1000 by have := deadF_len P (L.take q) 0; rw [List.length_take] at this; omega)
      obtain ⟨b, off, s1, e1, rfl, hb, c0, c1, c2, c3, -⟩ := vm_at (HV.out.below HB.out) (HM.out.below HB.out) hlt
      have HT := Lib.hid (deadF_take P hlt)
      generalize L.getD q Vn.z = x at *
      obtain ⟨xn, xr, xk, xp⟩ := x
      simp only at c0 c1 c2 c3
      have HT : Hid (deadF P (L.take (q + 1)) 0 = deadF P (L.take q) 0 ++ (if xr ≠ 0 ∧ covP xn xr P = false then [(q : Int)] else [])) := HT
      generalize hD0 : deadF P (L.take q) 0 = D at *
      clear hD0
      by_cases hr : xr = 0
      · have HT2 : Hid (deadF P (L.take (q + 1)) 0 = D) := Lib.hid (by rw [HT.out, if_neg (fun h => h.1 hr), List.append_nil])
        have hr2 : (xr != 0) = false := by simpa using hr
        subst hr
        clear HT
        go_wp2
        go_quiet (fail)
        go_wp2
        go_roundw
        case rel => exact ⟨q + 1, by omega, by go_num, Lib.hid (by rw [HT2.out]; exact HD.out.drewN _), Lib.hid (below_drewN HB.out _)⟩
        case measure => simp [intOf]; omega
      · have hr2 : (xr != 0) = true := by simpa using hr
        have HC := Lib.hid (fun m => rcovp_any P _ xn xr (wr.drewN m) ((HP.out.below HB.out).below (below_drewN (Below.refl _ _) m)) hP)
        cases hc : covP xn xr P with
        | true =>
          have HT2 : Hid (deadF P (L.take (q + 1)) 0 = D) := Lib.hid (by rw [HT.out, hc, if_neg (fun h => by cases h.2), List.append_nil])
          rw [hc] at HC
          clear HT hc
          go_wp2
          go_quiet ((go_at_call 30; exact quiet_left (HC.out _)))
          go_wp2
          go_roundw
          case rel => exact ⟨q + 1, by omega, by go_num, Lib.hid (by rw [HT2.out]; exact HD.out.drewN _), Lib.hid (below_drewN HB.out _)⟩
          case measure => simp [intOf]; omega
        | false =>
          have HT2 : Hid (deadF P (L.take (q + 1)) 0 = D ++ [(q : Int)]) := Lib.hid (by rw [HT.out, hc, if_pos ⟨hr, rfl⟩])
          rw [hc] at HC
          clear HT hc
          go_wp2
          go_quiet ((go_at_call 30; exact quiet_left (HC.out _)))
          go_wp2_with (at_builtin; refine wp_appI rfl _ _ 23 rfl w.heap.size D [(q : Int)] _ _ rfl rfl ((HD.out.drewN _).alloc _) (OwnI.one (c := (q : Int)) ⟨by omega, by omega⟩ (wr.drewN _)).rd.src ?_ ?_ ?_; (have h7 := HB.out.size; simp; omega); (have h7 := HDL.out; simp; omega); intro v3 w3 ho3 hb3; have O3 := Lib.hid ho3; have B3 := Lib.hid ((bal (below_drewN HB.out _) _).trans hb3); clear ho3 hb3)
          go_roundw
          case rel => exact ⟨q + 1, by omega, by go_num, Lib.hid (by rw [HT2.out]; exact O3.out), B3⟩
          case measure => simp [intOf]; omega
    · obtain rfl : q = L.length := by omega
      rw [List.take_length] at HD ⊢
      go_wp2
      go_ret
      exact ⟨_, rfl, HD.out, HB.out⟩
end
end Go.Proofs.Ytakickggpfbafaa
